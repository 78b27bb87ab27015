import copy
import unittest

from tests.helper import many_piles
from truthtoll.pile import pile_best, pile_gain, pile_pays


class HandedIn(unittest.TestCase):
    def test_nothing_handed_in_is_changed(self):
        for pieces, worths in many_piles(37, 12):
            handed = copy.deepcopy(worths)
            rows = list(handed)
            truth = [7, 3, 3]
            pile_best(pieces, handed)
            self.assertEqual(handed, worths)
            pile_pays(pieces, handed)
            self.assertEqual(handed, worths)
            for person in range(len(worths)):
                pile_gain(pieces, handed, person, truth)
                self.assertEqual(handed, worths)
                self.assertEqual(truth, [7, 3, 3])
            for row, was in zip(handed, rows):
                self.assertIs(row, was)

    def test_what_was_handed_in_may_be_changed_later(self):
        worths = [[5, 1], [3, 2]]
        best = pile_best(3, worths)
        pays = pile_pays(3, worths)
        self.assertEqual((best, pays), ((10, [1, 2]), [0, 1]))
        worths[0][0] = 9
        worths.append([8, 8])
        self.assertEqual((best, pays), ((10, [1, 2]), [0, 1]))
        self.assertEqual(pile_best(3, worths), (25, [1, 0, 2]))
        self.assertEqual(pile_best(3, [[5, 1], [3, 2]]), (10, [1, 2]))

    def test_one_list_may_be_handed_in_for_several_people(self):
        row = [4, 2]
        self.assertEqual(pile_best(3, [row, row]), (10, [1, 2]))
        self.assertEqual(pile_gain(3, [row, row], 0, row), 4)
        self.assertEqual(row, [4, 2])


class Told(unittest.TestCase):
    def test_what_was_told_may_be_changed(self):
        worths = [[5, 1], [3, 2]]
        for ask in (lambda: pile_best(3, worths)[1], lambda: pile_pays(3, worths)):
            told = ask()
            was = list(told)
            told[0] = 99
            told.append(98)
            self.assertEqual(ask(), was)
            self.assertEqual(worths, [[5, 1], [3, 2]])

    def test_each_answer_is_a_list_of_its_own(self):
        for pieces, worths in many_piles(41, 6):
            self.assertIsNot(pile_best(pieces, worths)[1], pile_best(pieces, worths)[1])
            self.assertIsNot(pile_pays(pieces, worths), pile_pays(pieces, worths))
            for row in worths:
                self.assertIsNot(pile_best(pieces, worths)[1], row)
                self.assertIsNot(pile_pays(pieces, worths), row)

    def test_the_same_question_gets_the_same_answer(self):
        for pieces, worths in many_piles(43, 6):
            self.assertEqual(pile_best(pieces, worths), pile_best(pieces, copy.deepcopy(worths)))
            self.assertEqual(pile_pays(pieces, worths), pile_pays(pieces, copy.deepcopy(worths)))
