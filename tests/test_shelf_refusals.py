import copy
import unittest

from truthtoll.errors import BadWorths
from truthtoll.shelf import shelf_best, shelf_gain, shelf_pays


def even_worths(people, goods):
    return [[3] * goods for _ in range(people)]


class Refusals(unittest.TestCase):
    def refused(self, worths):
        handed = copy.deepcopy(worths)
        with self.subTest(worths=worths):
            for ask in (shelf_best, shelf_pays):
                with self.assertRaises(BadWorths) as caught:
                    ask(handed)
                self.assertIs(type(caught.exception), BadWorths)
            for truth in ([3], [3, 3, 3, 3], list(worths[0]) if worths else []):
                with self.assertRaises(BadWorths):
                    shelf_gain(handed, 0, truth)
            self.assertEqual(handed, worths)

    def test_nobody(self):
        self.refused([])

    def test_too_many_people(self):
        for goods in range(1, 5):
            self.refused(even_worths(5, goods))
        self.refused(even_worths(6, 2))

    def test_no_goods(self):
        for people in range(1, 5):
            self.refused(even_worths(people, 0))

    def test_too_many_goods(self):
        for people in range(1, 5):
            self.refused(even_worths(people, 5))
        self.refused(even_worths(2, 6))

    def test_people_and_goods_wrong_at_once(self):
        self.refused(even_worths(5, 5))
        self.refused(even_worths(5, 0))

    def test_a_row_longer_or_shorter_at_each_place(self):
        for people in range(2, 5):
            for goods in range(1, 5):
                for person in range(people):
                    for length in (goods - 1, goods + 1):
                        worths = even_worths(people, goods)
                        worths[person] = [3] * length
                        self.refused(worths)

    def test_a_worth_out_of_bounds_at_each_place(self):
        for people in range(1, 5):
            for goods in range(1, 5):
                for person in range(people):
                    for good in range(goods):
                        for worth in (-1, 1001):
                            worths = even_worths(people, goods)
                            worths[person][good] = worth
                            self.refused(worths)

    def test_a_wrong_worth_of_a_good_that_nobody_gets(self):
        self.refused([[1000, -1], [0, 0]])
        self.refused([[-1000, 5]])

    def test_gain_of_another_person_is_refused_too(self):
        for person in range(3):
            with self.assertRaises(BadWorths):
                shelf_gain([[1, 2], [1, 2], [1, 1001]], person, [1, 2])

    def test_bounds_themselves_are_taken(self):
        for people in (1, 4):
            for goods in (1, 4):
                for worth in (0, 1000):
                    worths = [[worth] * goods for _ in range(people)]
                    self.assertEqual(shelf_best(worths)[0], worth * min(people, goods))
                    self.assertEqual(len(shelf_pays(worths)), people)
                    self.assertEqual(shelf_gain(worths, people - 1, [worth] * goods) >= 0, True)
