import unittest
from itertools import product
from random import Random

from tests.helper import (falling_row, falling_rows, many_piles, searched_counts_worth, searched_pile_best,
                          searched_pile_pays, told_by)
from truthtoll.pile import pile_best, pile_gain, pile_pays


class Gains(unittest.TestCase):
    # Of 3 pieces dealt [1, 0, 2], paid [6, 0, 15].
    WORTHS = [[9, 8, 7], [6], [8, 8]]

    def test_truth_like_the_told_worths(self):
        gains = [pile_gain(3, self.WORTHS, person, self.WORTHS[person]) for person in range(3)]
        self.assertEqual(gains, [3, 0, 1])

    def test_truth_unlike_the_told_worths(self):
        self.assertEqual(pile_gain(3, self.WORTHS, 0, [6, 6, 6]), 0)
        self.assertEqual(pile_gain(3, self.WORTHS, 0, [1000]), 994)
        self.assertEqual(pile_gain(3, self.WORTHS, 0, [0, 0, 0]), -6)
        self.assertEqual(pile_gain(3, self.WORTHS, 2, [10, 7]), 2)

    def test_a_truth_shorter_than_what_is_gotten(self):
        # Further pieces are worth nothing.
        self.assertEqual(pile_gain(3, self.WORTHS, 2, [10]), -5)
        self.assertEqual(pile_gain(3, self.WORTHS, 2, []), -15)
        self.assertEqual(pile_gain(3, self.WORTHS, 0, []), -6)

    def test_a_truth_longer_than_what_is_gotten(self):
        self.assertEqual(pile_gain(3, self.WORTHS, 2, [8, 8, 8, 8, 8]), 1)
        self.assertEqual(pile_gain(3, self.WORTHS, 0, [7, 6, 5, 4, 3]), 1)

    def test_who_gets_none_gains_nothing_whatever_the_truth(self):
        for truth in ([], [6], [1000, 1000]):
            self.assertEqual(pile_gain(3, self.WORTHS, 1, truth), 0)
            self.assertEqual(pile_gain(0, [[5]], 0, truth), 0)
            self.assertEqual(pile_gain(12, [[]], 0, truth), 0)

    def test_a_truth_somewhat_beyond_the_bounds_is_not_refused(self):
        self.assertEqual(pile_gain(1, [[5], [3]], 0, [1001]), 998)
        self.assertEqual(pile_gain(1, [[5], [3]], 0, [-1]), -4)
        self.assertEqual(pile_gain(1, [[5], [3]], 0, [4, 3, 2, 1, 1, 1]), 1)

    def test_against_a_search(self):
        source = Random(11)
        for pieces, worths in many_piles(13, 12):
            best = searched_pile_best(pieces, worths)[1]
            pays = searched_pile_pays(pieces, worths)
            for person, count in enumerate(best):
                for truth in (worths[person], falling_row(source, 10), falling_row(source, 1000)):
                    gotten = searched_counts_worth([truth + [0] * 5], [count])
                    self.assertEqual(pile_gain(pieces, worths, person, truth), gotten - pays[person],
                                     (pieces, worths, person, truth))


class TruthIsBest(unittest.TestCase):
    def check(self, pieces, worths, person, lies):
        truth = worths[person]
        honest = pile_gain(pieces, worths, person, truth)
        self.assertGreaterEqual(honest, 0, (pieces, worths, person))
        for lie in lies:
            lied = pile_gain(pieces, told_by(worths, person, lie), person, truth)
            self.assertLessEqual(lied, honest, (pieces, worths, person, lie))

    def test_all_truths_and_lies_of_two_people(self):
        rows = falling_rows(3, (0, 1, 2))
        for pieces in range(5):
            for truth, other in product(rows, repeat=2):
                self.check(pieces, [truth, other], 0, rows)
                self.check(pieces, [other, truth], 1, rows)

    def test_all_truths_and_lies_of_five_people_with_one_worth(self):
        rows = falling_rows(1, (0, 1, 1000))
        for worths in product(rows, repeat=5):
            for person in range(5):
                self.check(2, list(worths), person, rows)

    def test_piles_for_each_number_of_people(self):
        source = Random(23)
        for pieces, worths in many_piles(17, 24):
            lies = [falling_row(source, bound) for bound in (1, 3, 10, 1000, 1000)]
            lies.extend([[], [0] * 5, [1000], [1000] * 5])
            for person in range(len(worths)):
                self.check(pieces, worths, person, lies)


class SamePiecesSamePay(unittest.TestCase):
    def check(self, pieces, worths, person, rows):
        """How often two rows got this person the same, some pieces or none."""
        pay_for = {}
        met = 0
        for row in rows:
            told = told_by(worths, person, row)
            count = pile_best(pieces, told)[1][person]
            pay = pile_pays(pieces, told)[person]
            met += count in pay_for and count > 0
            self.assertEqual(pay_for.setdefault(count, pay), pay, (pieces, worths, person, row))
        return met

    def test_one_piece(self):
        for told in (4, 5, 9, 1000):
            self.assertEqual(pile_best(1, [[told], [3]])[1], [1, 0])
            self.assertEqual(pile_pays(1, [[told], [3]]), [3, 0])

    def test_all_rows_of_one_person(self):
        rows = falling_rows(3, (0, 1, 2, 3))
        met = 0
        for pieces in range(4):
            for other in rows:
                met += self.check(pieces, [[], other], 0, rows)
                met += self.check(pieces, [other, [], [2, 1]], 1, rows)
        self.assertGreater(met, 100)

    def test_piles_for_each_number_of_people(self):
        source = Random(31)
        met = 0
        for pieces, worths in many_piles(19, 12):
            rows = [falling_row(source, bound) for bound in (1, 3, 10, 1000) * 3]
            for person in range(len(worths)):
                met += self.check(pieces, worths, person, rows)
        self.assertGreater(met, 100)
