import copy
import unittest

from tests.helper import refusal
from truthtoll.errors import Alone, BadCosts, NoWay
from truthtoll.roads import Web, road_best, road_gain, road_gets

RING = (3, [(0, 1), (1, 2), (0, 2)])
# Neither a way nor a tree.
APART = (4, [(0, 1), (2, 3), (0, 1)])
# A way and a tree, of roads that all are alone.
LINE = (3, [(0, 1), (1, 2)])


class Refusals(unittest.TestCase):
    def refusals(self, made, kind, costs):
        """What each of the three, and road_gain of each road, refuses this with."""
        web = Web(*made)
        handed = copy.deepcopy(costs)
        found = [refusal(road_best, web, kind, handed), refusal(road_gets, web, kind, handed)]
        found.extend([refusal(road_gain, web, kind, handed, road, 3) for road in range(len(web.roads))])
        self.assertEqual(handed, costs)
        self.assertEqual((web.places, web.roads), made)
        return found

    def refused(self, made, costs, error):
        for kind in ("way", "tree"):
            with self.subTest(web=made, kind=kind, costs=costs):
                for found in self.refusals(made, kind, costs):
                    self.assertIs(type(found), error)


class BadCostsMet(Refusals):
    def test_too_few_and_too_many(self):
        for made in (RING, LINE, (2, [(0, 1)]), (2, [(0, 1)] * 10)):
            count = len(made[1])
            for length in (0, count - 1, count + 1, count + 2):
                self.refused(made, [3] * length, BadCosts)

    def test_out_of_bounds_at_each_place(self):
        for made in (RING, (2, [(0, 1)] * 2), (2, [(0, 1)] * 10)):
            for road in range(len(made[1])):
                for cost in (-2, -1, 1001, 1002):
                    costs = [3] * len(made[1])
                    costs[road] = cost
                    self.refused(made, costs, BadCosts)

    def test_a_wrong_cost_of_a_road_that_is_in_no_way(self):
        self.refused((3, [(0, 2), (0, 2), (0, 1)]), [1, 1, 1001], BadCosts)

    def test_ahead_of_no_way(self):
        for costs in ([1, 1], [1, 1, 1, 1], [1, -1, 1], [1, 1, 1001], []):
            self.refused(APART, costs, BadCosts)

    def test_ahead_of_alone(self):
        for costs in ([1], [1, 1, 1], [1, -1], [1001, 1], []):
            self.refused(LINE, costs, BadCosts)

    def test_bounds_themselves_are_taken(self):
        for kind in ("way", "tree"):
            for cost in (0, 1000):
                self.assertEqual(self.refusals(RING, kind, [cost] * 3), [None] * 5)


class NoWayMet(Refusals):
    def test_neither_a_way_nor_a_tree(self):
        for made in (APART, (3, [(0, 1)]), (3, [(1, 2)] * 10), (6, [(0, 1), (1, 2), (2, 3), (3, 4), (0, 4)])):
            self.refused(made, [5] * len(made[1]), NoWay)
            self.refused(made, [0] * len(made[1]), NoWay)

    def test_a_way_but_no_tree(self):
        made = (4, [(0, 3), (3, 0), (1, 2)])
        self.assertEqual(self.refusals(made, "way", [1, 2, 3]), [None] * 5)
        self.assertEqual([type(found) for found in self.refusals(made, "tree", [1, 2, 3])], [NoWay] * 5)

    def test_ahead_of_alone(self):
        # Each road is the only one between its places; place 2 can't be come to, nor by the first web place 3.
        self.refused((4, [(0, 1)]), [1], NoWay)
        made = (4, [(0, 1), (1, 3)])
        self.assertEqual([type(found) for found in self.refusals(made, "tree", [1, 1])], [NoWay] * 4)
        self.assertEqual([type(found) for found in self.refusals(made, "way", [1, 1])[1:]], [Alone] * 3)


class AloneMet(Refusals):
    def alone(self, made, kind, costs, road):
        found = self.refusals(made, kind, costs)
        with self.subTest(web=made, kind=kind, costs=costs):
            # There is a best one all the same.
            self.assertIsNone(found[0])
            for error in found[1:]:
                self.assertIs(type(error), Alone)
                self.assertEqual(error.road, road)
                self.assertIs(type(error.road), int)

    def test_one_road(self):
        for kind in ("way", "tree"):
            for cost in (0, 1000):
                self.alone((2, [(0, 1)]), kind, [cost], 0)

    def test_the_first_of_several_is_told(self):
        for kind in ("way", "tree"):
            self.alone(LINE, kind, [5, 1], 0)
            self.alone((4, [(0, 1), (1, 0), (1, 2), (2, 3)]), kind, [1, 1, 1, 1], 2)
            self.alone((4, [(2, 3), (1, 0), (1, 0), (1, 2)]), kind, [9, 1, 1, 1], 0)
            self.alone((3, [(0, 1), (0, 1), (1, 2)]), kind, [1, 2, 3], 2)

    def test_a_tree_but_not_a_way(self):
        # Place 1 hangs by road 2 alone, which no way needs.
        made = (3, [(0, 2), (2, 0), (0, 1)])
        self.assertEqual(road_gets(Web(*made), "way", [1, 2, 3]), [2, 0, 0])
        self.alone(made, "tree", [1, 2, 3], 2)

    def test_a_way_and_a_tree_at_unlike_roads(self):
        # A tree needs road 0 too, which leads aside.
        made = (4, [(0, 1), (0, 2), (2, 0), (2, 3)])
        self.alone(made, "way", [1, 1, 1, 1], 3)
        self.alone(made, "tree", [1, 1, 1, 1], 0)

    def test_the_road_asked_for_need_not_be_the_one_alone(self):
        web = Web(3, [(0, 1), (0, 1), (1, 2)])
        for road in range(3):
            error = refusal(road_gain, web, "way", [1, 1, 1], road, 1)
            self.assertEqual((type(error), error.road), (Alone, 2))
