import unittest

from tests.helper import refusal
from truthtoll.errors import Alone, BadCosts, BadWeb, BadWorths, NoWay, TollError
from truthtoll.pile import pile_best, pile_gain, pile_pays
from truthtoll.roads import Web, road_best, road_gain, road_gets
from truthtoll.shelf import shelf_best, shelf_gain, shelf_pays

FIVE = (BadWorths, BadWeb, BadCosts, NoWay, Alone)


class ErrorClasses(unittest.TestCase):
    def test_toll_error_stands_under_value_error(self):
        self.assertEqual(TollError.__bases__, (ValueError,))

    def test_each_stands_under_toll_error_alone(self):
        for kind in FIVE:
            with self.subTest(kind=kind.__name__):
                self.assertEqual(kind.__bases__, (TollError,))

    def test_none_stands_under_another_of_the_five(self):
        for one in FIVE:
            for other in FIVE:
                with self.subTest(one=one.__name__, other=other.__name__):
                    self.assertEqual(issubclass(one, other), one is other)

    def test_names(self):
        names = [kind.__name__ for kind in (TollError,) + FIVE]
        self.assertEqual(names, ["TollError", "BadWorths", "BadWeb", "BadCosts", "NoWay", "Alone"])

    def test_each_can_be_raised_and_taken_as_toll_error(self):
        for kind in (TollError, BadWorths, BadWeb, BadCosts, NoWay):
            with self.subTest(kind=kind.__name__):
                with self.assertRaises(TollError) as caught:
                    raise kind("words")
                self.assertIs(type(caught.exception), kind)
                self.assertEqual(str(caught.exception), "words")


class AloneRoad(unittest.TestCase):
    def test_alone_has_the_road(self):
        for road in (0, 1, 9):
            with self.subTest(road=road):
                with self.assertRaises(Alone) as caught:
                    raise Alone(road)
                self.assertEqual(caught.exception.road, road)

    def test_each_object_has_its_own_road(self):
        one = Alone(2)
        other = Alone(5)
        self.assertEqual((one.road, other.road), (2, 5))


class RefusalsMet(unittest.TestCase):
    def met(self, own, ask, *handed):
        error = refusal(ask, *handed)
        with self.subTest(ask=ask.__name__, handed=handed):
            self.assertIsInstance(error, ValueError)
            self.assertIsInstance(error, TollError)
            self.assertEqual([isinstance(error, kind) for kind in FIVE], [kind is own for kind in FIVE])
        return error

    def test_bad_worths(self):
        self.met(BadWorths, shelf_best, [[1001]])
        self.met(BadWorths, shelf_pays, [])
        self.met(BadWorths, shelf_gain, [], 0, [1])
        for pieces, worths in ((1, []), (1, [[1, 2]]), (1, [[-1]]), (13, [[1]]), (-1, [[1]])):
            self.met(BadWorths, pile_best, pieces, worths)
            self.met(BadWorths, pile_pays, pieces, worths)
            self.met(BadWorths, pile_gain, pieces, worths, 0, [1])

    def test_bad_web(self):
        for places, roads in ((1, [(0, 0)]), (7, [(0, 1)]), (2, []), (2, [(0, 1)] * 11), (2, [(0, 2)])):
            self.met(BadWeb, Web, places, roads)

    def test_bad_costs_no_way_and_alone(self):
        web = Web(3, [(0, 1), (1, 2)])
        apart = Web(3, [(0, 1), (0, 1)])
        for kind in ("way", "tree"):
            for ask, more in ((road_best, ()), (road_gets, ()), (road_gain, (0, 1))):
                for costs in ([1], [1, 1, 1], [1, -1], [1001, 1]):
                    self.met(BadCosts, ask, web, kind, costs, *more)
                self.met(NoWay, ask, apart, kind, [1, 1], *more)
            for ask, more in ((road_gets, ()), (road_gain, (1, 1))):
                self.assertEqual(self.met(Alone, ask, web, kind, [1, 1], *more).road, 0)
