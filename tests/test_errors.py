import unittest

from truthtoll.errors import Alone, BadCosts, BadWeb, BadWorths, NoWay, TollError

FIVE = (BadWorths, BadWeb, BadCosts, NoWay, Alone)


class ErrorClasses(unittest.TestCase):
    def test_toll_error_stands_under_value_error(self):
        self.assertEqual(TollError.__bases__, (ValueError,))

    def test_each_stands_under_toll_error_alone(self):
        for kind in FIVE:
            with self.subTest(kind=kind.__name__):
                self.assertEqual(kind.__bases__, (TollError,))

    def test_none_stands_under_another_of_the_five(self):
        for one in FIVE:
            for other in FIVE:
                with self.subTest(one=one.__name__, other=other.__name__):
                    self.assertEqual(issubclass(one, other), one is other)

    def test_names(self):
        names = [kind.__name__ for kind in (TollError,) + FIVE]
        self.assertEqual(names, ["TollError", "BadWorths", "BadWeb", "BadCosts", "NoWay", "Alone"])

    def test_each_can_be_raised_and_taken_as_toll_error(self):
        for kind in (TollError, BadWorths, BadWeb, BadCosts, NoWay):
            with self.subTest(kind=kind.__name__):
                with self.assertRaises(TollError) as caught:
                    raise kind("words")
                self.assertIs(type(caught.exception), kind)
                self.assertEqual(str(caught.exception), "words")


class AloneRoad(unittest.TestCase):
    def test_alone_has_the_road(self):
        for road in (0, 1, 9):
            with self.subTest(road=road):
                with self.assertRaises(Alone) as caught:
                    raise Alone(road)
                self.assertEqual(caught.exception.road, road)

    def test_each_object_has_its_own_road(self):
        one = Alone(2)
        other = Alone(5)
        self.assertEqual((one.road, other.road), (2, 5))
