import unittest
from itertools import product
from random import Random

from tests.helper import (many_costs, ring_webs, searched_choices, searched_road_best, searched_road_gets, told_by)
from truthtoll.roads import Web, road_best, road_gain, road_gets

RING = (3, [(0, 1), (1, 2), (0, 2)])
LITTLE = [
    (2, [(0, 1), (1, 0)]),
    (2, [(0, 1), (1, 0), (0, 1)]),
    RING,
    (3, [(0, 1), (0, 2), (2, 1), (1, 2)]),
    (4, [(0, 1), (1, 3), (3, 2), (0, 2)]),
]


class Gains(unittest.TestCase):
    def test_truth_like_the_told_costs(self):
        web = Web(*RING)
        self.assertEqual([road_gain(web, "way", [1, 1, 3], road, [1, 1, 3][road]) for road in range(3)], [1, 1, 0])
        self.assertEqual([road_gain(web, "tree", [1, 1, 3], road, [1, 1, 3][road]) for road in range(3)], [2, 2, 0])

    def test_truth_unlike_the_told_costs(self):
        web = Web(*RING)
        self.assertEqual(road_gain(web, "way", [1, 1, 3], 0, 0), 2)
        self.assertEqual(road_gain(web, "way", [1, 1, 3], 0, 2), 0)
        self.assertEqual(road_gain(web, "way", [1, 1, 3], 1, 1000), -998)
        self.assertEqual(road_gain(web, "tree", [1, 1, 3], 1, 7), -4)

    def test_who_is_not_chosen_gains_nothing_whatever_the_truth(self):
        for kind in ("way", "tree"):
            for truth in (0, 3, 1000):
                self.assertEqual(road_gain(Web(*RING), kind, [1, 1, 3], 2, truth), 0)

    def test_a_road_chosen_for_nothing_still_costs_its_owner(self):
        # It gets 0, as those do that are not chosen.
        web = Web(2, [(0, 1), (0, 1)])
        for kind in ("way", "tree"):
            self.assertEqual(road_gain(web, kind, [0, 0], 0, 5), -5)
            self.assertEqual(road_gain(web, kind, [0, 0], 1, 5), 0)

    def test_a_truth_somewhat_beyond_the_bounds_is_not_refused(self):
        self.assertEqual(road_gain(Web(*RING), "way", [1, 1, 3], 0, 1001), -999)
        self.assertEqual(road_gain(Web(*RING), "way", [1, 1, 3], 0, -1), 3)
        self.assertEqual(road_gain(Web(*RING), "way", [1, 1, 3], 2, -1), 0)

    def test_against_a_search(self):
        source = Random(11)
        for places, roads in ring_webs(29, 5):
            web = Web(places, roads)
            for kind in ("way", "tree"):
                choices = searched_choices(places, roads, kind)
                for costs in many_costs(source, len(roads), 5):
                    best = searched_road_best(choices, costs)[1]
                    gets = searched_road_gets(choices, costs)[0]
                    for road, told in enumerate(costs):
                        for truth in (told, source.randint(0, 1000)):
                            due = gets[road] - truth if road in best else 0
                            self.assertEqual(road_gain(web, kind, costs, road, truth), due, (roads, kind, costs, road))


class TruthIsBest(unittest.TestCase):
    def check(self, web, kind, costs, road, lies):
        truth = costs[road]
        honest = road_gain(web, kind, costs, road, truth)
        self.assertGreaterEqual(honest, 0, (web.roads, kind, costs, road))
        for lie in lies:
            lied = road_gain(web, kind, told_by(costs, road, lie), road, truth)
            self.assertLessEqual(lied, honest, (web.roads, kind, costs, road, lie))

    def test_all_truths_and_lies_in_little_webs(self):
        for made in LITTLE:
            for kind in ("way", "tree"):
                for costs in product((0, 1, 2), repeat=len(made[1])):
                    for road in range(len(costs)):
                        self.check(Web(*made), kind, list(costs), road, (0, 1, 2, 3, 1000))

    def test_webs_of_each_size(self):
        source = Random(23)
        for places, roads in ring_webs(31, 3):
            web = Web(places, roads)
            for kind in ("way", "tree"):
                for costs in many_costs(source, len(roads), 5):
                    for road, told in enumerate(costs):
                        # Beside far lies those next to the truth, where the choice may just turn.
                        lies = [0, 1000, source.randint(0, 1000), max(told - 1, 0), min(told + 1, 1000)]
                        self.check(web, kind, costs, road, lies)


class SameChoiceSameGet(unittest.TestCase):
    def check(self, web, kind, costs, road, told):
        """How often two told costs got this road chosen."""
        get_for = {}
        met = 0
        for cost in told:
            handed = told_by(costs, road, cost)
            chosen = road in road_best(web, kind, handed)[1]
            get = road_gets(web, kind, handed)[road]
            met += chosen and chosen in get_for
            self.assertEqual(get_for.setdefault(chosen, get), get, (web.roads, kind, costs, road, cost))
        return met

    def test_two_roads(self):
        web = Web(2, [(0, 1), (0, 1)])
        for kind in ("way", "tree"):
            for told in (0, 1, 6, 7):
                self.assertEqual(road_best(web, kind, [told, 7]), (told, [0]))
                self.assertEqual(road_gets(web, kind, [told, 7]), [7, 0])

    def test_all_costs_in_little_webs(self):
        met = 0
        for made in LITTLE:
            for kind in ("way", "tree"):
                for costs in product((0, 1, 2), repeat=len(made[1])):
                    for road in range(len(costs)):
                        met += self.check(Web(*made), kind, list(costs), road, (0, 1, 2, 3, 4))
        self.assertGreater(met, 100)

    def test_webs_of_each_size(self):
        source = Random(37)
        met = 0
        for places, roads in ring_webs(41, 2):
            web = Web(places, roads)
            for kind in ("way", "tree"):
                for costs in many_costs(source, len(roads), 5):
                    for road in range(len(roads)):
                        met += self.check(web, kind, costs, road, (0, 1, 3, source.randint(0, 1000), 1000))
        self.assertGreater(met, 100)
