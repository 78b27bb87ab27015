import copy
import unittest

from tests.helper import refusal
from truthtoll.errors import BadWorths
from truthtoll.pile import pile_best, pile_gain, pile_pays


class Refusals(unittest.TestCase):
    def refused(self, pieces, worths):
        handed = copy.deepcopy(worths)
        with self.subTest(pieces=pieces, worths=worths):
            self.assertIs(type(refusal(pile_best, pieces, handed)), BadWorths)
            self.assertIs(type(refusal(pile_pays, pieces, handed)), BadWorths)
            for truth in ([], [3], [3, 3, 3, 3, 3], list(worths[0]) if worths else []):
                self.assertIs(type(refusal(pile_gain, pieces, handed, 0, truth)), BadWorths)
            self.assertEqual(handed, worths)

    def refused_for_all_pieces(self, worths):
        for pieces in (0, 1, 5, 12):
            self.refused(pieces, worths)

    def test_nobody(self):
        self.refused_for_all_pieces([])

    def test_too_many_people(self):
        for people in (6, 7):
            for length in range(6):
                self.refused_for_all_pieces([[3] * length for _ in range(people)])

    def test_too_many_worths_in_each_row(self):
        for people in range(1, 6):
            for person in range(people):
                for length in (6, 7):
                    worths = [[3] for _ in range(people)]
                    worths[person] = [3] * length
                    self.refused_for_all_pieces(worths)

    def test_a_row_that_rises_at_each_place(self):
        for people in range(1, 6):
            for person in range(people):
                for length in range(2, 6):
                    for place in range(1, length):
                        worths = [[9, 5] for _ in range(people)]
                        worths[person] = [4] * place + [5] * (length - place)
                        self.refused_for_all_pieces(worths)

    def test_a_row_that_rises_once_and_falls_else(self):
        self.refused_for_all_pieces([[9, 7, 8, 3, 1]])
        self.refused_for_all_pieces([[0, 1000]])
        self.refused_for_all_pieces([[5, 4, 3, 2, 3]])
        self.refused_for_all_pieces([[5, 0, 5]])

    def test_a_worth_out_of_bounds_at_each_place(self):
        for people in range(1, 6):
            for person in range(people):
                for length in range(1, 6):
                    worths = [[3] for _ in range(people)]
                    # Neither row rises, so the bound alone is broken.
                    worths[person] = [3] * (length - 1) + [-1]
                    self.refused_for_all_pieces(worths)
                    worths[person] = [1001] + [3] * (length - 1)
                    self.refused_for_all_pieces(worths)
                    worths[person] = [1001] * length
                    self.refused_for_all_pieces(worths)

    def test_a_count_of_pieces_out_of_bounds(self):
        for worths in ([[5]], [[]], [[5, 3], [2], []], [[1000] * 5 for _ in range(5)]):
            for pieces in (-2, -1, 13, 14, 25):
                self.refused(pieces, worths)

    def test_worths_and_pieces_wrong_at_once(self):
        for worths in ([], [[1]] * 6, [[3] * 6], [[1, 2]], [[-1]], [[1001]]):
            for pieces in (-1, 13):
                self.refused(pieces, worths)

    def test_worths_are_refused_ahead_of_pieces(self):
        # Both refusals are of one class; their words alone tell which of them came first.
        for worths in ([], [[1]] * 6, [[3] * 6], [[1, 2]], [[-1]], [[1001]]):
            for pieces in (-1, 13):
                for ask, more in ((pile_best, ()), (pile_pays, ()), (pile_gain, (0, [3]))):
                    self.assertEqual(str(refusal(ask, pieces, worths, *more)), str(refusal(ask, 5, worths, *more)))
                    self.assertNotEqual(str(refusal(ask, pieces, worths, *more)),
                                        str(refusal(ask, pieces, [[1]], *more)))

    def test_gain_of_another_person_is_refused_too(self):
        for person in range(3):
            self.assertIs(type(refusal(pile_gain, 2, [[2, 1], [2], [1, 2]], person, [1])), BadWorths)
            self.assertIs(type(refusal(pile_gain, 13, [[2, 1], [2], [1]], person, [1])), BadWorths)

    def test_bounds_themselves_are_taken(self):
        for pieces in (0, 12):
            for people in (1, 5):
                for length in (0, 5):
                    for worth in (0, 1000):
                        worths = [[worth] * length for _ in range(people)]
                        dealt = min(pieces, people * length)
                        self.assertEqual(pile_best(pieces, worths)[0], worth * dealt)
                        self.assertEqual(len(pile_pays(pieces, worths)), people)
                        self.assertGreaterEqual(pile_gain(pieces, worths, people - 1, [worth] * length), 0)

    def test_rows_that_stay_level_are_taken(self):
        self.assertEqual(pile_best(4, [[5, 5, 4, 4, 4]]), (18, [4]))
