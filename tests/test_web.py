import copy
import unittest

from tests.helper import all_roads, many_webs, refusal
from truthtoll.errors import BadWeb
from truthtoll.roads import Web, road_best, road_gets


class GoodWebs(unittest.TestCase):
    def test_fields(self):
        web = Web(3, [(0, 1), (2, 1), (0, 1)])
        self.assertEqual(web.places, 3)
        self.assertEqual(web.roads, [(0, 1), (2, 1), (0, 1)])
        self.assertIs(type(web.places), int)
        self.assertIs(type(web.roads), list)
        self.assertEqual([type(road) for road in web.roads], [tuple, tuple, tuple])

    def test_fields_of_webs_of_each_size(self):
        for places, roads in many_webs(3, 1):
            web = Web(places, roads)
            self.assertEqual((web.places, web.roads), (places, roads))

    def test_each_web_has_its_own_fields(self):
        one = Web(2, [(0, 1)])
        other = Web(3, [(0, 2), (1, 2)])
        self.assertEqual((one.places, one.roads), (2, [(0, 1)]))
        self.assertEqual((other.places, other.roads), (3, [(0, 2), (1, 2)]))

    def test_each_road_that_there_can_be(self):
        for places in range(2, 7):
            for road in all_roads(places):
                self.assertEqual(Web(places, [road]).roads, [road])

    def test_bounds_themselves_are_taken(self):
        for places in (2, 6):
            for count in (1, 10):
                self.assertEqual(len(Web(places, [(0, places - 1)] * count).roads), count)

    def test_a_web_without_a_way_is_a_web(self):
        self.assertEqual(Web(6, [(1, 2)]).roads, [(1, 2)])


class Refusals(unittest.TestCase):
    def refused(self, places, roads):
        handed = copy.deepcopy(roads)
        with self.subTest(places=places, roads=roads):
            self.assertIs(type(refusal(Web, places, handed)), BadWeb)
            self.assertEqual(handed, roads)

    def test_too_few_and_too_many_places(self):
        for places in (-1, 0, 1, 7, 8):
            self.refused(places, [(0, 1)])
            self.refused(places, [(0, 1)] * 10)
        self.refused(7, [(0, 6), (5, 6)])

    def test_no_roads_and_too_many(self):
        for places in range(2, 7):
            self.refused(places, [])
            for count in (11, 12):
                self.refused(places, [(0, 1)] * count)

    def test_a_road_from_a_place_to_itself(self):
        for places in range(2, 7):
            for place in range(places):
                self.refused(places, [(place, place)])
                self.refused(places, [(0, 1), (place, place), (0, 1)])

    def test_a_road_to_a_place_that_there_is_not(self):
        for places in range(2, 7):
            for beyond in (-2, -1, places, places + 1):
                for place in range(places):
                    self.refused(places, [(place, beyond)])
                    self.refused(places, [(beyond, place)])

    def test_a_road_of_fewer_or_more_places_than_two(self):
        for road in ((), (0,), (0, 1, 2)):
            self.refused(3, [road])
            self.refused(3, [(0, 1), road])

    def test_a_wrong_road_at_each_place_of_the_list(self):
        for wrong in ((1, 1), (-1, 0), (0, 3)):
            for place in range(10):
                roads = [(0, 1)] * 10
                roads[place] = wrong
                self.refused(3, roads)

    def test_places_and_roads_wrong_at_once(self):
        for places in (1, 7):
            self.refused(places, [])
            self.refused(places, [(0, 0)])
            self.refused(places, [(0, 1)] * 11)


class HandedIn(unittest.TestCase):
    def test_the_list_of_roads_is_not_changed(self):
        for places, roads in many_webs(5, 1):
            handed = list(roads)
            Web(places, handed)
            self.assertEqual(handed, roads)

    def test_a_later_change_of_the_list_is_not_seen(self):
        roads = [(0, 1), (1, 2), (0, 2)]
        web = Web(3, roads)
        roads[2] = (0, 1)
        roads.append((0, 0))
        self.assertEqual(web.roads, [(0, 1), (1, 2), (0, 2)])
        self.assertEqual(road_best(web, "way", [4, 4, 1]), (1, [2]))
        self.assertEqual(road_gets(web, "way", [4, 4, 1]), [0, 0, 8])
        roads.clear()
        self.assertEqual(web.roads, [(0, 1), (1, 2), (0, 2)])
        self.assertEqual(road_best(web, "tree", [4, 4, 1]), (5, [0, 2]))

    def test_one_list_may_be_handed_in_for_several_webs(self):
        roads = [(0, 1), (1, 0)]
        one = Web(2, roads)
        other = Web(3, roads)
        again = Web(2, one.roads)
        self.assertIsNot(one.roads, roads)
        self.assertIsNot(one.roads, other.roads)
        self.assertIsNot(one.roads, again.roads)
        self.assertEqual((one.roads, other.roads, again.roads), (roads, roads, roads))
