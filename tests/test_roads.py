import unittest
from itertools import product
from random import Random

from tests.helper import (all_roads, many_costs, many_webs, refusal, ring_webs, searched_choices, searched_road_best,
                          searched_road_gets)
from truthtoll.errors import Alone, NoWay
from truthtoll.roads import Web, road_best, road_gain, road_gets

TWIN = (2, [(0, 1), (1, 0)])
TRIANGLE = (3, [(0, 1), (1, 2), (0, 2)])
SQUARE = (4, [(0, 1), (1, 3), (3, 2), (0, 2)])
TRIPLE = (2, [(0, 1), (0, 1), (1, 0)])

# A web, the kind, costs, the least cost, the best one, what each owner gets: reckoned by hand.
KNOWN = [
    (TWIN, "way", [5, 3], 3, [1], [0, 5]),
    (TWIN, "tree", [5, 3], 3, [1], [0, 5]),
    (TWIN, "way", [3, 3], 3, [0], [3, 0]),
    (TWIN, "tree", [3, 3], 3, [0], [3, 0]),
    (TWIN, "way", [0, 0], 0, [0], [0, 0]),
    (TWIN, "tree", [0, 0], 0, [0], [0, 0]),
    (TWIN, "way", [0, 1000], 0, [0], [1000, 0]),
    (TWIN, "way", [1000, 1000], 1000, [0], [1000, 0]),
    (TRIPLE, "way", [7, 4, 6], 4, [1], [0, 6, 0]),
    (TRIPLE, "tree", [7, 4, 6], 4, [1], [0, 6, 0]),
    (TRIANGLE, "way", [1, 1, 3], 2, [0, 1], [2, 2, 0]),
    (TRIANGLE, "tree", [1, 1, 3], 2, [0, 1], [3, 3, 0]),
    (TRIANGLE, "way", [4, 5, 2], 2, [2], [0, 0, 9]),
    (TRIANGLE, "tree", [4, 5, 2], 6, [0, 2], [5, 0, 5]),
    (TRIANGLE, "way", [1, 2, 3], 3, [0, 1], [1, 2, 0]),
    (TRIANGLE, "tree", [2, 2, 2], 4, [0, 1], [2, 2, 0]),
    (TRIANGLE, "way", [1000, 1000, 1000], 1000, [2], [0, 0, 2000]),
    (TRIANGLE, "tree", [1000, 1000, 1000], 2000, [0, 1], [1000, 1000, 0]),
    (SQUARE, "way", [1, 2, 3, 4], 3, [0, 1], [5, 6, 0, 0]),
    (SQUARE, "tree", [1, 2, 3, 4], 6, [0, 1, 2], [4, 4, 4, 0]),
    (SQUARE, "way", [9, 9, 1, 0], 1, [2, 3], [0, 0, 18, 17]),
]


class KnownRoads(unittest.TestCase):
    def test_best(self):
        for web, kind, costs, least, best, gets in KNOWN:
            with self.subTest(web=web, kind=kind, costs=costs):
                self.assertEqual(road_best(Web(*web), kind, costs), (least, best))

    def test_gets(self):
        for web, kind, costs, least, best, gets in KNOWN:
            with self.subTest(web=web, kind=kind, costs=costs):
                self.assertEqual(road_gets(Web(*web), kind, costs), gets)

    def test_kinds(self):
        for kind in ("way", "tree"):
            told = road_best(Web(*TRIANGLE), kind, [1, 1, 3])
            self.assertIs(type(told), tuple)
            self.assertEqual(len(told), 2)
            self.assertIs(type(told[0]), int)
            self.assertIs(type(told[1]), list)
            self.assertIs(type(road_gets(Web(*TRIANGLE), kind, [1, 1, 3])), list)

    def test_roads_are_told_rising_though_gone_otherwise(self):
        web = Web(4, [(2, 3), (1, 2), (1, 0)])
        self.assertEqual(road_best(web, "way", [1, 2, 4]), (7, [0, 1, 2]))
        web = Web(4, [(3, 1), (2, 0), (1, 2)])
        self.assertEqual(road_best(web, "way", [1, 2, 4]), (7, [0, 1, 2]))

    def test_roads_may_be_gone_either_way(self):
        for first in ((0, 1), (1, 0)):
            for second in ((1, 2), (2, 1)):
                for kind in ("way", "tree"):
                    self.assertEqual(road_best(Web(3, [first, second]), kind, [3, 4]), (7, [0, 1]))


class WaysAndTrees(unittest.TestCase):
    def test_a_way_comes_to_no_place_twice(self):
        # The two first roads cost nothing, but lead back to place 0.
        self.assertEqual(road_best(Web(3, [(0, 1), (0, 1), (0, 2)]), "way", [0, 0, 5]), (5, [2]))
        # So does the ring about place 1.
        ring = Web(4, [(1, 2), (1, 2), (0, 1), (1, 3)])
        self.assertEqual(road_best(ring, "way", [0, 0, 1, 1]), (2, [2, 3]))

    def test_a_way_ends_at_the_last_place(self):
        self.assertEqual(road_best(Web(3, [(1, 2), (0, 2)]), "way", [0, 4]), (4, [1]))

    def test_a_way_has_no_road_aside(self):
        self.assertEqual(road_best(Web(3, [(0, 1), (0, 2)]), "way", [0, 4]), (4, [1]))

    def test_a_way_need_not_come_to_each_place(self):
        self.assertEqual(road_best(Web(6, [(0, 5), (1, 2)]), "way", [4, 1]), (4, [0]))

    def test_a_tree_has_no_road_that_can_be_left_out(self):
        self.assertEqual(road_best(Web(2, [(0, 1), (0, 1)]), "tree", [0, 0]), (0, [0]))
        self.assertEqual(road_best(Web(3, [(0, 1), (1, 2), (0, 2)]), "tree", [0, 0, 0]), (0, [0, 1]))

    def test_a_tree_comes_to_each_place(self):
        self.assertEqual(road_best(Web(4, [(0, 3), (1, 3), (2, 3)]), "tree", [1, 2, 3]), (6, [0, 1, 2]))

    def test_the_search_keeps_to_point_8(self):
        places, roads = TRIANGLE
        self.assertEqual(searched_choices(places, roads, "way"), [[2], [0, 1]])
        self.assertEqual(searched_choices(places, roads, "tree"), [[0, 1], [0, 2], [1, 2]])
        self.assertEqual(searched_choices(3, [(0, 1), (0, 1), (0, 2)], "way"), [[2]])
        self.assertEqual(searched_choices(3, [(0, 1), (0, 1), (0, 2)], "tree"), [[0, 2], [1, 2]])
        self.assertEqual(searched_choices(3, [(0, 1)], "way"), [])
        self.assertEqual(searched_choices(3, [(0, 2)], "tree"), [])


class TheOrder(unittest.TestCase):
    def test_of_ways_of_one_cost_the_lesser_road_decides(self):
        self.assertEqual(road_best(Web(3, [(0, 1), (0, 2), (1, 2)]), "way", [1, 3, 2]), (3, [0, 2]))
        self.assertEqual(road_best(Web(3, [(0, 2), (0, 1), (1, 2)]), "way", [3, 1, 2]), (3, [0]))

    def test_how_long_a_way_is_does_not_decide(self):
        # [0, 1, 2] is ahead of [0, 3].
        self.assertEqual(road_best(Web(4, [(0, 1), (1, 2), (2, 3), (1, 3)]), "way", [1, 1, 1, 2]), (3, [0, 1, 2]))
        # [0, 1] is ahead of [0, 2, 3].
        self.assertEqual(road_best(Web(4, [(0, 1), (1, 3), (2, 3), (1, 2)]), "way", [1, 2, 1, 1]), (3, [0, 1]))
        # [0, 2] is ahead of [1].
        self.assertEqual(road_best(Web(3, [(1, 2), (0, 2), (0, 1)]), "way", [0, 0, 0]), (0, [0, 2]))

    def test_of_trees_of_one_cost_the_lesser_road_decides(self):
        full = [(0, 1), (0, 2), (0, 3), (1, 2), (1, 3), (2, 3)]
        for cost in (0, 1, 1000):
            self.assertEqual(road_best(Web(4, full), "tree", [cost] * 6), (3 * cost, [0, 1, 2]))
            self.assertEqual(road_best(Web(4, full), "way", [cost] * 6), (0, [0, 3, 5]) if cost == 0 else (cost, [2]))

    def test_ten_like_roads(self):
        for kind in ("way", "tree"):
            web = Web(2, [(0, 1)] * 10)
            self.assertEqual(road_best(web, kind, [6] * 10), (6, [0]))
            self.assertEqual(road_gets(web, kind, [6] * 10), [6] + [0] * 9)
            self.assertEqual(road_best(web, kind, [6] * 9 + [5]), (5, [9]))
            self.assertEqual(road_gets(web, kind, [6] * 9 + [5]), [0] * 9 + [6])


class AgainstASearch(unittest.TestCase):
    def check(self, places, roads, list_of_costs):
        """How often there was no choice, a road alone, and an answer."""
        web = Web(places, roads)
        met = {NoWay: 0, Alone: 0, None: 0}
        for kind in ("way", "tree"):
            choices = searched_choices(places, roads, kind)
            for costs in list_of_costs:
                met[self.check_one(web, kind, costs, choices)] += 1
        return met

    def check_one(self, web, kind, costs, choices):
        said = (web.places, web.roads, kind, costs)
        best = searched_road_best(choices, costs)
        if best is None:
            self.assertIs(type(refusal(road_best, web, kind, costs)), NoWay, said)
            self.assertIs(type(refusal(road_gets, web, kind, costs)), NoWay, said)
            self.assertIs(type(refusal(road_gain, web, kind, costs, 0, 1)), NoWay, said)
            return NoWay
        self.assertEqual(road_best(web, kind, costs), best, said)
        gets, alone = searched_road_gets(choices, costs)
        if gets is None:
            for error in (refusal(road_gets, web, kind, costs), refusal(road_gain, web, kind, costs, 0, 1)):
                self.assertIs(type(error), Alone, said)
                self.assertEqual(error.road, alone, said)
            return Alone
        self.assertEqual(road_gets(web, kind, costs), gets, said)
        return None

    def test_webs_of_each_size(self):
        source = Random(7)
        met = {NoWay: 0, Alone: 0, None: 0}
        for places, roads in many_webs(11, 3):
            for kind, times in self.check(places, roads, many_costs(source, len(roads), 5)).items():
                met[kind] += times
        for kind, times in met.items():
            self.assertGreater(times, 100, kind)

    def test_webs_whose_roads_can_be_done_without(self):
        source = Random(13)
        for places, roads in ring_webs(17, 10):
            met = self.check(places, roads, many_costs(source, len(roads), 5))
            self.assertEqual(met, {NoWay: 0, Alone: 0, None: 10})

    def test_all_webs_of_three_places_and_three_roads(self):
        for roads in product(all_roads(3), repeat=3):
            self.check(3, list(roads), [list(costs) for costs in product((0, 1, 2), repeat=3)])

    def test_all_webs_of_two_places(self):
        for count in range(1, 4):
            for roads in product(all_roads(2), repeat=count):
                self.check(2, list(roads), [list(costs) for costs in product((0, 1, 999, 1000), repeat=count)])

    def test_many_roads_of_like_costs(self):
        source = Random(19)
        for places, roads in ring_webs(23, 3):
            self.check(places, roads, [[cost] * len(roads) for cost in (0, 1, 1000)])
            self.check(places, roads, [[source.choice((0, 1)) for _ in roads] for _ in range(4)])
