import unittest
from itertools import product
from random import Random

from tests.helper import falling_row, falling_rows, many_piles, searched_pile_best, searched_pile_pays
from truthtoll.pile import pile_best, pile_pays

# Pieces, worths, the greatest worth, the best dealing, the pays: reckoned by hand.
KNOWN = [
    (0, [[5]], 0, [0], [0]),
    (0, [[5], [9, 9], []], 0, [0, 0, 0], [0, 0, 0]),
    (1, [[5, 4, 1]], 5, [1], [0]),
    (2, [[5, 4, 1]], 9, [2], [0]),
    (3, [[5, 4, 1]], 10, [3], [0]),
    (12, [[5, 4, 1]], 10, [3], [0]),
    (12, [[1000] * 5], 5000, [5], [0]),
    (12, [[]], 0, [0], [0]),
    (12, [[], [], [], [], []], 0, [0, 0, 0, 0, 0], [0, 0, 0, 0, 0]),
    (3, [[], [7], []], 7, [0, 1, 0], [0, 0, 0]),
    (1, [[5], [3]], 5, [1, 0], [3, 0]),
    (1, [[3], [5]], 5, [0, 1], [0, 3]),
    (1, [[4], [4]], 4, [0, 1], [0, 4]),
    (2, [[10, 2], [6, 5]], 16, [1, 1], [5, 2]),
    (3, [[10, 2], [6, 5]], 21, [1, 2], [0, 2]),
    (4, [[10, 2], [6, 5]], 23, [2, 2], [0, 0]),
    (2, [[3, 3], [3, 3]], 6, [0, 2], [0, 6]),
    (3, [[3, 3], [3, 3]], 9, [1, 2], [0, 3]),
    (2, [[5, 0], [0]], 5, [1, 0], [0, 0]),
    (3, [[9, 8, 7], [6], [8, 8]], 25, [1, 0, 2], [6, 0, 15]),
    (12, [[1000] * 5 for _ in range(5)], 12000, [0, 0, 2, 5, 5], [0, 0, 2000, 5000, 5000]),
    (12, [[0] * 5 for _ in range(5)], 0, [0, 0, 0, 0, 0], [0, 0, 0, 0, 0]),
]


class KnownPiles(unittest.TestCase):
    def test_best(self):
        for pieces, worths, greatest, best, pays in KNOWN:
            with self.subTest(pieces=pieces, worths=worths):
                self.assertEqual(pile_best(pieces, worths), (greatest, best))

    def test_pays(self):
        for pieces, worths, greatest, best, pays in KNOWN:
            with self.subTest(pieces=pieces, worths=worths):
                self.assertEqual(pile_pays(pieces, worths), pays)

    def test_kinds(self):
        told = pile_best(2, [[5, 1], [3, 2]])
        self.assertIs(type(told), tuple)
        self.assertEqual(len(told), 2)
        self.assertIs(type(told[0]), int)
        self.assertIs(type(told[1]), list)
        self.assertIs(type(pile_pays(2, [[5, 1], [3, 2]])), list)

    def test_kinds_where_nothing_is_dealt(self):
        for pieces, worths in ((0, [[5]]), (3, [[]])):
            told = pile_best(pieces, worths)
            self.assertEqual([type(told), type(told[0]), type(told[1][0])], [tuple, int, int])
            self.assertIs(type(pile_pays(pieces, worths)[0]), int)


class AgainstASearch(unittest.TestCase):
    def check(self, pieces, worths):
        self.assertEqual(pile_best(pieces, worths), searched_pile_best(pieces, worths), (pieces, worths))
        self.assertEqual(pile_pays(pieces, worths), searched_pile_pays(pieces, worths), (pieces, worths))

    def test_piles_for_each_number_of_people(self):
        for pieces, worths in many_piles(3, 40):
            self.check(pieces, worths)

    def test_each_number_of_pieces(self):
        source = Random(5)
        for pieces in range(13):
            for bound in (1, 3, 1000):
                self.check(pieces, [falling_row(source, bound) for _ in range(4)])
                self.check(pieces, [falling_row(source, bound)])

    def test_five_people_with_full_rows(self):
        source = Random(7)
        for pieces in (0, 1, 6, 11, 12):
            for bound in (1, 2, 1000):
                rows = [sorted([source.randint(0, bound) for _ in range(5)], reverse=True) for _ in range(5)]
                self.check(pieces, rows)

    def test_all_small_piles_with_many_ties(self):
        for people, longest, told in ((1, 5, (0, 1, 2)), (2, 3, (0, 1, 2)), (3, 2, (0, 1, 2)), (4, 2, (0, 1))):
            for worths in product(falling_rows(longest, told), repeat=people):
                for pieces in range(people * longest + 2):
                    self.check(pieces, list(worths))

    def test_least_and_greatest_worths(self):
        for worths in product(falling_rows(2, (0, 1, 999, 1000)), repeat=2):
            for pieces in range(5):
                self.check(pieces, list(worths))

    def test_all_worths_alike(self):
        for worth in (0, 1, 1000):
            for people in range(1, 6):
                for length in range(4):
                    for pieces in (0, 1, 4, 12):
                        self.check(pieces, [[worth] * length for _ in range(people)])


class MoreAndFewerPieces(unittest.TestCase):
    def test_more_pieces_than_worths_stay_in_the_pile(self):
        for pieces in range(4, 13):
            self.assertEqual(pile_best(pieces, [[5, 5], [1], [2]]), (13, [2, 1, 1]))
            self.assertEqual(pile_pays(pieces, [[5, 5], [1], [2]]), [0, 0, 0])

    def test_fewer_pieces_than_worths(self):
        self.assertEqual([pile_best(pieces, [[5, 5], [1], [2]]) for pieces in range(4)],
                         [(0, [0, 0, 0]), (5, [1, 0, 0]), (10, [2, 0, 0]), (12, [2, 0, 1])])

    def test_nobody_is_dealt_more_than_the_own_row(self):
        for pieces, worths in many_piles(9, 40):
            dealing = pile_best(pieces, worths)[1]
            self.assertEqual(len(dealing), len(worths))
            self.assertLessEqual(sum(dealing), pieces)
            for count, row in zip(dealing, worths):
                self.assertLessEqual(0, count)
                self.assertLessEqual(count, len(row))


class TheOrder(unittest.TestCase):
    def test_a_piece_that_is_worth_nothing_is_not_dealt(self):
        self.assertEqual(pile_best(5, [[0, 0], [5, 0]]), (5, [0, 1]))
        self.assertEqual(pile_best(5, [[5, 0], [0, 0]]), (5, [1, 0]))

    def test_the_earlier_person_gets_less(self):
        self.assertEqual(pile_best(1, [[6], [6], [6]]), (6, [0, 0, 1]))
        self.assertEqual(pile_best(2, [[6, 6], [6], [6]]), (12, [0, 1, 1]))
        self.assertEqual(pile_best(3, [[6, 6], [6], [6, 1]]), (18, [1, 1, 1]))
        self.assertEqual(pile_best(3, [[6, 2], [2, 2], [2]]), (10, [1, 1, 1]))
