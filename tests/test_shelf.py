import unittest

from tests.helper import all_worths, comes_first, many_worths, searched_best, searched_pays
from truthtoll.shelf import shelf_best, shelf_pays

# Worths, the greatest worth, the best dealing, the pays: reckoned by hand.
KNOWN = [
    ([[5]], 5, [0], [0]),
    ([[0]], 0, [-1], [0]),
    ([[1000]], 1000, [0], [0]),
    ([[2, 9, 4]], 9, [1], [0]),
    ([[2, 4, 4, 1]], 4, [1], [0]),
    ([[5], [3]], 5, [0, -1], [3, 0]),
    ([[3], [5]], 5, [-1, 0], [0, 3]),
    ([[4], [4]], 4, [-1, 0], [0, 4]),
    ([[7], [2], [7], [3]], 7, [-1, -1, 0, -1], [0, 0, 7, 0]),
    ([[10, 6], [8, 1]], 14, [1, 0], [0, 4]),
    ([[10, 8], [9, 3], [5, 6]], 17, [1, 0, -1], [6, 8, 0]),
    ([[1000], [1000], [1000], [1000]], 1000, [-1, -1, -1, 0], [0, 0, 0, 1000]),
    ([[1000, 0], [1000, 0]], 1000, [-1, 0], [0, 1000]),
    ([[1000] * 4 for _ in range(4)], 4000, [0, 1, 2, 3], [0, 0, 0, 0]),
    ([[0] * 4 for _ in range(4)], 0, [-1, -1, -1, -1], [0, 0, 0, 0]),
    ([[3, 3, 3], [3, 3, 3]], 6, [0, 1], [0, 0]),
    ([[3, 3], [3, 3], [3, 3]], 6, [-1, 0, 1], [0, 3, 3]),
]


class KnownShelves(unittest.TestCase):
    def test_best(self):
        for worths, greatest, best, pays in KNOWN:
            with self.subTest(worths=worths):
                self.assertEqual(shelf_best(worths), (greatest, best))

    def test_pays(self):
        for worths, greatest, best, pays in KNOWN:
            with self.subTest(worths=worths):
                self.assertEqual(shelf_pays(worths), pays)

    def test_kinds(self):
        told = shelf_best([[5, 1], [3, 2]])
        self.assertIs(type(told), tuple)
        self.assertEqual(len(told), 2)
        self.assertIs(type(told[0]), int)
        self.assertIs(type(told[1]), list)
        self.assertIs(type(shelf_pays([[5, 1], [3, 2]])), list)


class AgainstASearch(unittest.TestCase):
    def check(self, worths):
        self.assertEqual(shelf_best(worths), searched_best(worths, len(worths[0])), worths)
        self.assertEqual(shelf_pays(worths), searched_pays(worths), worths)

    def test_shelves_of_each_size(self):
        for worths in many_worths(3, 16):
            self.check(worths)

    def test_all_small_shelves_with_many_ties(self):
        for people, goods, told in ((1, 4, (0, 1)), (2, 2, (0, 1, 2)), (2, 3, (0, 1)), (3, 2, (0, 1)),
                                    (4, 1, (0, 1, 2)), (4, 2, (0, 1))):
            for worths in all_worths(people, goods, told):
                self.check(worths)

    def test_least_and_greatest_worths(self):
        for worths in all_worths(2, 2, (0, 1, 999, 1000)):
            self.check(worths)

    def test_all_worths_alike(self):
        for worth in (0, 1, 1000):
            for people in range(1, 5):
                for goods in range(1, 5):
                    self.check([[worth] * goods for _ in range(people)])


class TheOrder(unittest.TestCase):
    def test_none_is_less_than_any_good(self):
        # Nobody wants the goods, so nobody gets one, though a dealing that gives them away is worth as much.
        self.assertEqual(shelf_best([[0, 0], [5, 0]]), (5, [-1, 0]))
        self.assertEqual(shelf_best([[5, 0], [0, 0]]), (5, [0, -1]))

    def test_the_earlier_person_decides(self):
        # [0, 1] and [1, 0] are worth the same.
        self.assertEqual(shelf_best([[6, 4], [5, 3]]), (9, [0, 1]))
        # [-1, 0] is ahead of [0, -1].
        self.assertEqual(shelf_best([[6], [6]]), (6, [-1, 0]))

    def test_the_search_keeps_to_point_2(self):
        self.assertTrue(comes_first([-1, 3], [0, 0]))
        self.assertTrue(comes_first([1, 0, 9], [1, 2]))
        self.assertTrue(comes_first([1], [1, 0]))
        self.assertFalse(comes_first([1, 0], [1]))
        self.assertFalse(comes_first([2], [1, 5]))
        self.assertFalse(comes_first([1, 2], [1, 2]))
