import inspect
import unittest
from itertools import combinations
from math import comb

from surestretch.choose import choices


class Choices(unittest.TestCase):
    def test_small_ones_by_counting_sets(self):
        for n in range(11):
            for k in range(n + 1):
                with self.subTest(n=n, k=k):
                    self.assertEqual(choices(n, k), len(list(combinations(range(n), k))))

    def test_every_one_to_sixty_is_the_sum_of_the_two_above_it(self):
        row = [1]
        for n in range(61):
            self.assertEqual([choices(n, k) for k in range(n + 1)], row)
            row = [1] + [one + other for one, other in zip(row, row[1:])] + [1]

    def test_none_and_all_are_one_way_each(self):
        for n in range(61):
            self.assertEqual((choices(n, 0), choices(n, n)), (1, 1))

    def test_below_none_and_above_all_there_is_no_way(self):
        for n in (0, 1, 2, 5, 59, 60):
            for k in (-10 ** 59, -61, -n - 1, -2, -1, n + 1, n + 2, 61, 10 ** 59):
                with self.subTest(n=n, k=k):
                    self.assertEqual(choices(n, k), 0)

    def test_of_nothing_nothing_alone_is_chosen(self):
        self.assertEqual([choices(0, k) for k in range(-3, 4)], [0, 0, 0, 1, 0, 0, 0])

    def test_of_sixty(self):
        self.assertEqual(choices(60, 1), 60)
        self.assertEqual(choices(60, 30), 118264581564861424)
        self.assertEqual(choices(60, 59), 60)
        self.assertEqual(sum(choices(60, k) for k in range(61)), 2 ** 60)

    def test_somewhat_beyond_sixty_nothing_is_refused(self):
        self.assertEqual([choices(70, k) for k in range(-1, 72)], [0] + [comb(70, k) for k in range(71)] + [0])

    def test_what_is_told_is_an_int_and_told_again(self):
        for n, k in ((0, 0), (5, 2), (5, -1), (5, 6), (60, 30)):
            first = choices(n, k)
            self.assertIs(type(first), int)
            self.assertEqual(choices(n, k), first)

    def test_the_names_of_the_arguments(self):
        self.assertEqual(list(inspect.signature(choices).parameters), ["n", "k"])


if __name__ == "__main__":
    unittest.main()
