import copy
import unittest

from tests.helper import many_worths
from truthtoll.shelf import shelf_best, shelf_gain, shelf_pays


class HandedIn(unittest.TestCase):
    def test_nothing_handed_in_is_changed(self):
        for worths in many_worths(17, 4):
            handed = copy.deepcopy(worths)
            rows = list(handed)
            truth = [7] * len(worths[0])
            shelf_best(handed)
            self.assertEqual(handed, worths)
            shelf_pays(handed)
            self.assertEqual(handed, worths)
            for person in range(len(worths)):
                shelf_gain(handed, person, truth)
                self.assertEqual(handed, worths)
                self.assertEqual(truth, [7] * len(worths[0]))
            for row, was in zip(handed, rows):
                self.assertIs(row, was)

    def test_what_was_handed_in_may_be_changed_later(self):
        worths = [[5, 1], [3, 2]]
        best = shelf_best(worths)
        pays = shelf_pays(worths)
        self.assertEqual((best, pays), ((7, [0, 1]), [1, 0]))
        worths[0][0] = 0
        worths.append([9, 9])
        self.assertEqual((best, pays), ((7, [0, 1]), [1, 0]))
        self.assertEqual(shelf_best(worths), (12, [-1, 0, 1]))
        self.assertEqual(shelf_best([[5, 1], [3, 2]]), (7, [0, 1]))

    def test_one_list_may_be_handed_in_for_several_people(self):
        row = [4, 2]
        self.assertEqual(shelf_best([row, row]), (6, [0, 1]))
        self.assertEqual(shelf_gain([row, row], 0, row), 2)
        self.assertEqual(row, [4, 2])


class Told(unittest.TestCase):
    def test_what_was_told_may_be_changed(self):
        worths = [[5, 1], [3, 2]]
        for ask in (lambda: shelf_best(worths)[1], lambda: shelf_pays(worths)):
            told = ask()
            was = list(told)
            told[0] = 99
            told.append(98)
            self.assertEqual(ask(), was)
            self.assertEqual(worths, [[5, 1], [3, 2]])

    def test_each_answer_is_a_list_of_its_own(self):
        for worths in many_worths(19, 2):
            self.assertIsNot(shelf_best(worths)[1], shelf_best(worths)[1])
            self.assertIsNot(shelf_pays(worths), shelf_pays(worths))
            for row in worths:
                self.assertIsNot(shelf_best(worths)[1], row)
                self.assertIsNot(shelf_pays(worths), row)

    def test_the_same_question_gets_the_same_answer(self):
        for worths in many_worths(29, 2):
            self.assertEqual(shelf_best(worths), shelf_best(copy.deepcopy(worths)))
            self.assertEqual(shelf_pays(worths), shelf_pays(copy.deepcopy(worths)))
