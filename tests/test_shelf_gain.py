import unittest
from itertools import product
from random import Random

from tests.helper import many_worths, searched_best, searched_pays, told_by
from truthtoll.errors import BadWorths
from truthtoll.shelf import shelf_best, shelf_gain, shelf_pays


class Gains(unittest.TestCase):
    # Dealt [1, 0, -1], paid [6, 8, 0].
    WORTHS = [[10, 8], [9, 3], [5, 6]]

    def test_truth_like_the_told_worths(self):
        gains = [shelf_gain(self.WORTHS, person, self.WORTHS[person]) for person in range(3)]
        self.assertEqual(gains, [2, 1, 0])

    def test_truth_unlike_the_told_worths(self):
        self.assertEqual(shelf_gain(self.WORTHS, 0, [0, 0]), -6)
        self.assertEqual(shelf_gain(self.WORTHS, 0, [0, 1000]), 994)
        self.assertEqual(shelf_gain(self.WORTHS, 1, [8, 77]), 0)
        self.assertEqual(shelf_gain(self.WORTHS, 1, [0, 1000]), -8)

    def test_who_gets_none_gains_nothing_whatever_the_truth(self):
        for truth in ([0, 0], [5, 6], [1000, 1000]):
            self.assertEqual(shelf_gain(self.WORTHS, 2, truth), 0)
        self.assertEqual(shelf_gain([[0]], 0, [1000]), 0)

    def test_the_truth_alone_changes_no_dealing_and_no_pay(self):
        self.assertEqual(shelf_gain([[5], [3]], 0, [0]), -3)
        self.assertEqual(shelf_gain([[3], [5]], 0, [1000]), 0)

    def test_a_truth_somewhat_beyond_the_bounds_is_not_refused(self):
        self.assertEqual(shelf_gain([[5], [3]], 0, [1001]), 998)
        self.assertEqual(shelf_gain([[5], [3]], 0, [-1]), -4)
        self.assertEqual(shelf_gain([[5], [3]], 1, [1001]), 0)

    def test_against_a_search(self):
        source = Random(11)
        for worths in many_worths(5, 8):
            goods = len(worths[0])
            best = searched_best(worths, goods)[1]
            pays = searched_pays(worths)
            for person, good in enumerate(best):
                truth = [source.randint(0, 1000) for _ in range(goods)]
                gotten = 0 if good == -1 else truth[good]
                self.assertEqual(shelf_gain(worths, person, truth), gotten - pays[person], (worths, person, truth))

    def test_worths_are_refused_and_not_the_truth(self):
        with self.assertRaises(BadWorths):
            shelf_gain([[1001]], 0, [1])


class TruthIsBest(unittest.TestCase):
    def check(self, worths, person, lies):
        truth = worths[person]
        honest = shelf_gain(worths, person, truth)
        self.assertGreaterEqual(honest, 0, (worths, person))
        for lie in lies:
            lied = shelf_gain(told_by(worths, person, lie), person, truth)
            self.assertLessEqual(lied, honest, (worths, person, lie))

    def test_all_truths_and_lies_of_two_people_with_two_goods(self):
        rows = [list(row) for row in product((0, 1, 2), repeat=2)]
        for truth in rows:
            for other in rows:
                self.check([truth, other], 0, rows)
                self.check([other, truth], 1, rows)

    def test_all_truths_and_lies_of_four_people_with_one_good(self):
        rows = [[worth] for worth in (0, 1, 2, 1000)]
        for worths in product(rows, repeat=4):
            for person in range(4):
                self.check(list(worths), person, rows)

    def test_shelves_of_each_size(self):
        source = Random(23)
        for worths in many_worths(7, 4):
            goods = len(worths[0])
            lies = [[source.randint(0, bound) for _ in range(goods)] for bound in (1, 3, 10, 1000, 1000)]
            lies.extend([[0] * goods, [1000] * goods])
            for person in range(len(worths)):
                self.check(worths, person, lies)


class SameGoodSamePay(unittest.TestCase):
    def check(self, worths, person, rows):
        """How often two rows got this person the same."""
        pay_for = {}
        met = 0
        for row in rows:
            told = told_by(worths, person, row)
            good = shelf_best(told)[1][person]
            pay = shelf_pays(told)[person]
            met += good in pay_for
            self.assertEqual(pay_for.setdefault(good, pay), pay, (worths, person, row))
        return met

    def test_one_good(self):
        for told in (4, 5, 9, 1000):
            self.assertEqual(shelf_best([[told], [3]])[1], [0, -1])
            self.assertEqual(shelf_pays([[told], [3]]), [3, 0])

    def test_all_rows_of_one_person(self):
        rows = [list(row) for row in product((0, 1, 2, 3), repeat=2)]
        met = 0
        for other in rows:
            met += self.check([[0, 0], other], 0, rows)
            met += self.check([other, [0, 0]], 1, rows)
            met += self.check([other, [0, 0], [2, 1]], 1, rows)
        self.assertGreater(met, 100)

    def test_shelves_of_each_size(self):
        source = Random(31)
        met = 0
        for worths in many_worths(13, 2):
            goods = len(worths[0])
            rows = [[source.randint(0, bound) for _ in range(goods)] for bound in (1, 3, 10, 1000) * 3]
            for person in range(len(worths)):
                met += self.check(worths, person, rows)
        self.assertGreater(met, 100)
