import inspect
import unittest
from fractions import Fraction
from itertools import product
from math import comb, gcd

from surestretch import trials
from surestretch.trials import run_sum, weight
from test_ratios import GREATEST, ODD_SIXTY, SIXTY, Checks

SMALL_SHARES = [(top, bottom) for bottom in range(1, 8) for top in range(bottom + 1) if gcd(top, bottom) == 1]
LONG_SHARES = [(1, GREATEST), (GREATEST - 1, GREATEST), (SIXTY, GREATEST), (SIXTY - 1, SIXTY), (7, SIXTY),
               (ODD_SIXTY, GREATEST - 1), (10 ** 29 + 7, 10 ** 30 + 9)]
SHARES = SMALL_SHARES + [share for share in LONG_SHARES if gcd(*share) == 1]


def weight_by_formula(n, k, p):
    return comb(n, k) * Fraction(*p) ** k * (1 - Fraction(*p)) ** (n - k)


def weights_by_rows(n, p):
    """Goes through all rows of wins and losses, one by one."""
    weights = [Fraction(0)] * (n + 1)
    for row in product((True, False), repeat=n):
        chance = Fraction(1)
        for won in row:
            chance *= Fraction(*p) if won else 1 - Fraction(*p)
        weights[sum(row)] += chance
    return weights


class Weights(Checks):
    def test_some_by_hand(self):
        self.assertEqual([weight(1, k, (1, 3)) for k in (0, 1)], [(2, 3), (1, 3)])
        self.assertEqual([weight(2, k, (1, 2)) for k in (0, 1, 2)], [(1, 4), (1, 2), (1, 4)])
        self.assertEqual([weight(3, k, (1, 3)) for k in (0, 1, 2, 3)], [(8, 27), (4, 9), (2, 9), (1, 27)])
        self.assertEqual(weight(12, 6, (1, 2)), (231, 1024))
        self.assertEqual(weight(12, 1, (1, 2)), (3, 1024))

    def test_small_ones_by_all_rows(self):
        for n in range(1, 7):
            for p in ((0, 1), (1, 1), (1, 2), (1, 3), (3, 4), (2, 7)):
                for k, awaited in enumerate(weights_by_rows(n, p)):
                    with self.subTest(n=n, k=k, p=p):
                        self.check_fraction(weight(n, k, p), awaited)

    def test_every_count_of_trials_and_every_outcome(self):
        for n in range(1, 13):
            for p in SHARES:
                for k in range(n + 1):
                    with self.subTest(n=n, k=k, p=p):
                        self.check_fraction(weight(n, k, p), weight_by_formula(n, k, p))

    def test_all_weights_come_to_1(self):
        for n in range(1, 13):
            for p in SHARES:
                with self.subTest(n=n, p=p):
                    self.assertEqual(sum(Fraction(*weight(n, k, p)) for k in range(n + 1)), 1)

    def test_at_0_and_at_1_all_is_in_one_outcome(self):
        for n in range(1, 13):
            with self.subTest(n):
                self.assertEqual([weight(n, k, (0, 1)) for k in range(n + 1)], [(1, 1)] + [(0, 1)] * n)
                self.assertEqual([weight(n, k, (1, 1)) for k in range(n + 1)], [(0, 1)] * n + [(1, 1)])

    def test_somewhat_beyond_nothing_is_refused(self):
        for p in ((0, 1), (1, 3), (1, 1)):
            self.assertEqual([weight(3, k, p) for k in (-2, -1, 4, 5)], [(0, 1)] * 4)
            self.check_fraction(weight(14, 5, p), weight_by_formula(14, 5, p))

    def test_what_is_told_may_be_handed_on(self):
        p = weight(12, 3, (ODD_SIXTY, GREATEST - 1))
        self.assertGreater(len(str(p[1])), 600)
        self.check_fraction(weight(5, 2, p), weight_by_formula(5, 2, p))


class Runs(Checks):
    def test_some_by_hand(self):
        self.assertEqual(run_sum(2, 0, 1, (1, 2)), (3, 4))
        self.assertEqual(run_sum(3, 1, 2, (1, 3)), (2, 3))
        self.assertEqual(run_sum(3, 2, 1, (1, 3)), (0, 1))
        self.assertEqual(run_sum(12, 5, 7, (1, 2)), (627, 1024))

    def test_every_run(self):
        for n in range(1, 13):
            for p in SHARES[::3] + [(1, 1)]:
                weights = [weight_by_formula(n, k, p) for k in range(n + 1)]
                for i in range(n + 1):
                    for j in range(n + 1):
                        with self.subTest(n=n, i=i, j=j, p=p):
                            self.check_fraction(run_sum(n, i, j, p), sum(weights[i:j + 1], Fraction(0)))

    def test_one_outcome_and_all(self):
        for n in range(1, 13):
            for p in SHARES:
                with self.subTest(n=n, p=p):
                    self.assertEqual(run_sum(n, 0, n, p), (1, 1))
                    for k in range(n + 1):
                        self.assertEqual(run_sum(n, k, k, p), weight(n, k, p))

    def test_a_first_above_the_last_is_0(self):
        for n in range(1, 13):
            for i in range(1, n + 1):
                for j in range(i):
                    self.assertEqual(run_sum(n, i, j, (2, 5)), (0, 1))

    def test_somewhat_beyond_nothing_is_refused(self):
        for p in ((0, 1), (1, 3), (1, 1)):
            self.assertEqual(run_sum(3, -2, 1, p), run_sum(3, 0, 1, p))
            self.assertEqual(run_sum(3, 2, 5, p), run_sum(3, 2, 3, p))
            self.assertEqual(run_sum(3, -1, 4, p), (1, 1))
            self.assertEqual(run_sum(3, 4, 5, p), (0, 1))
            self.assertEqual(run_sum(3, -3, -1, p), (0, 1))


class AlongTheShares(unittest.TestCase):
    RISING = sorted({Fraction(*p) for p in SHARES} | {Fraction(k, 24) for k in range(25)})

    def sums(self, n, i, j):
        return [Fraction(*run_sum(n, i, j, (p.numerator, p.denominator))) for p in self.RISING]

    def test_between_two_it_is_nowhere_less_than_at_one_of_them(self):
        for n in (1, 2, 3, 5, 8, 12):
            for i in range(n + 1):
                for j in range(i, n + 1):
                    told = self.sums(n, i, j)
                    for place in range(1, len(told) - 1):
                        with self.subTest(n=n, i=i, j=j, p=self.RISING[place]):
                            self.assertGreaterEqual(told[place], min(max(told[:place]), max(told[place + 1:])))

    def test_it_changes_by_no_more_than_n_times_what_they_are_apart(self):
        for n in (1, 2, 3, 5, 8, 12):
            for i in range(n + 1):
                for j in range(i, n + 1):
                    told = self.sums(n, i, j)
                    for place in range(1, len(told)):
                        apart = self.RISING[place] - self.RISING[place - 1]
                        with self.subTest(n=n, i=i, j=j, p=self.RISING[place]):
                            self.assertLessEqual(abs(told[place] - told[place - 1]), n * apart)

    def test_to_the_last_it_never_falls_and_from_the_first_it_never_rises(self):
        for n in range(1, 13):
            for k in range(n + 1):
                with self.subTest(n=n, k=k):
                    upper = self.sums(n, k, n)
                    lower = self.sums(n, 0, k)
                    self.assertEqual(upper, sorted(upper))
                    self.assertEqual(lower, sorted(lower, reverse=True))


class Asked(unittest.TestCase):
    def test_the_same_asked_again_is_told_the_same(self):
        p = (5, 7)
        first = (weight(9, 4, p), run_sum(9, 2, 6, p))
        weight(12, 3, (1, GREATEST))
        run_sum(12, 0, 11, (1, GREATEST))
        self.assertEqual((weight(9, 4, p), run_sum(9, 2, 6, p)), first)
        self.assertEqual(p, (5, 7))

    def test_the_names_of_the_arguments(self):
        for name, parameters in (("weight", ["n", "k", "p"]), ("run_sum", ["n", "i", "j", "p"])):
            self.assertEqual(list(inspect.signature(getattr(trials, name)).parameters), parameters)


if __name__ == "__main__":
    unittest.main()
