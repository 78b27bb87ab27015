import copy
import unittest
from random import Random

from tests.helper import many_costs, ring_webs
from truthtoll.roads import Web, road_best, road_gain, road_gets


class HandedIn(unittest.TestCase):
    def test_nothing_handed_in_is_changed(self):
        source = Random(43)
        for places, roads in ring_webs(47, 3):
            web = Web(places, roads)
            was = web.roads
            for kind in ("way", "tree"):
                for costs in many_costs(source, len(roads), 5):
                    handed = list(costs)
                    for ask, more in ((road_best, ()), (road_gets, ()), (road_gain, (0, 7))):
                        ask(web, kind, handed, *more)
                        self.assertEqual(handed, costs)
                        self.assertEqual((web.places, web.roads), (places, roads))
                        self.assertIs(web.roads, was)

    def test_what_was_handed_in_may_be_changed_later(self):
        web = Web(3, [(0, 1), (1, 2), (0, 2)])
        costs = [1, 1, 3]
        best = road_best(web, "way", costs)
        gets = road_gets(web, "way", costs)
        self.assertEqual((best, gets), ((2, [0, 1]), [2, 2, 0]))
        costs[2] = 0
        self.assertEqual((best, gets), ((2, [0, 1]), [2, 2, 0]))
        self.assertEqual(road_best(web, "way", costs), (0, [2]))
        self.assertEqual(road_best(web, "way", [1, 1, 3]), (2, [0, 1]))
        costs.clear()
        self.assertEqual(road_gets(web, "way", [1, 1, 3]), [2, 2, 0])

    def test_webs_and_kinds_do_not_hang_on_one_another(self):
        one = Web(3, [(0, 1), (1, 2), (0, 2)])
        other = Web(3, [(0, 1), (1, 2), (0, 1)])
        for _ in range(2):
            self.assertEqual(road_best(one, "way", [4, 4, 1]), (1, [2]))
            self.assertEqual(road_best(one, "tree", [4, 4, 1]), (5, [0, 2]))
            self.assertEqual(road_best(other, "way", [4, 4, 1]), (5, [1, 2]))


class Told(unittest.TestCase):
    def test_what_was_told_may_be_changed(self):
        web = Web(3, [(0, 1), (1, 2), (0, 2)])
        costs = [1, 1, 3]
        for kind in ("way", "tree"):
            for ask in (lambda: road_best(web, kind, costs)[1], lambda: road_gets(web, kind, costs)):
                told = ask()
                was = list(told)
                told[0] = 99
                told.append(98)
                self.assertEqual(ask(), was)
                self.assertEqual(costs, [1, 1, 3])
                self.assertEqual((web.places, web.roads), (3, [(0, 1), (1, 2), (0, 2)]))

    def test_each_answer_is_a_list_of_its_own(self):
        for places, roads in ring_webs(53, 2):
            web = Web(places, roads)
            costs = [1] * len(roads)
            for kind in ("way", "tree"):
                answers = [road_best(web, kind, costs)[1], road_best(web, kind, costs)[1],
                           road_gets(web, kind, costs), road_gets(web, kind, costs)]
                lists = answers + [costs, roads, web.roads]
                self.assertEqual(len({id(one) for one in lists}), len(lists))

    def test_the_same_question_gets_the_same_answer(self):
        source = Random(59)
        for places, roads in ring_webs(61, 2):
            for kind in ("way", "tree"):
                for costs in many_costs(source, len(roads), 5):
                    web = Web(places, roads)
                    again = copy.deepcopy(web)
                    self.assertEqual(road_best(web, kind, costs), road_best(again, kind, list(costs)))
                    self.assertEqual(road_gets(web, kind, costs), road_gets(again, kind, list(costs)))
