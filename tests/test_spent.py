import unittest
from collections import Counter
from fractions import Fraction
from itertools import product

from surestretch.early import chance, ends, errors_of, plan_of
from surestretch.spent import spent
from surestretch.trials import run_sum, weight
from test_early import ends_by_rows
from test_makers import HARDLY, NEARLY
from test_ratios import GREATEST, ODD_SIXTY, SIXTY, as_told
from test_rules import HALF, ONE, ZERO

LONG = as_told(Fraction(ODD_SIXTY, GREATEST))
CHANCES = [ZERO, (1, 5), (1, 3), HALF, (5, 7), ONE, HARDLY, NEARLY, (SIXTY, GREATEST), LONG]
LEFT = [ZERO, (1, 20), (1, 10), (1, 3), HALF, (9, 10), ONE, HARDLY, NEARLY, LONG]


def ended_by(highs, p):
    """The chance to have been ended high by the last of these, by all rows of as many trials."""
    t = len(highs)
    counts = Counter(sum(row) for row in product((False, True), repeat=t)
                     if any(sum(row[:place + 1]) >= high for place, high in enumerate(highs)))
    return sum((count * p ** k * (1 - p) ** (t - k) for k, count in counts.items()), Fraction(0))


def spent_by_rows(n, p, e):
    highs = []
    for t in range(1, n + 1):
        most = Fraction(*e) * t / n
        highs.append(next(high for high in range(t + 2) if ended_by(highs + [high], Fraction(*p)) <= most))
    return (n, tuple((-1, high) for high in highs[:-1]) + ((highs[-1] - 1, highs[-1]),))


def high_by(plan, t, p):
    """The chance to have been ended high by t trials, by the ends of the plan."""
    return sum((ways * p ** k * (1 - p) ** (trials - k) for trials, k, word, ways in ends_by_rows(plan)
                if word == "high" and trials <= t), Fraction(0))


class Spent(unittest.TestCase):
    def check_form(self, plan, n):
        self.assertEqual([type(part) for part in (plan,) + plan], [tuple, int, tuple])
        self.assertEqual(plan[0], n)
        self.assertEqual(plan_of(*plan), plan)
        self.assertEqual([low for low, high in plan[1]], [-1] * (n - 1) + [plan[1][-1][1] - 1])

    def check_spent(self, n, p, e):
        with self.subTest(n=n, p=p, e=e):
            told = spent(n, p, e)
            self.check_form(told, n)
            self.assertEqual(told, spent_by_rows(n, p, e))
            for other in (p, ONE):
                self.assertLessEqual(Fraction(*errors_of(told, p, other)[0]), Fraction(*e))

    def check_by_ends(self, n, p, e):
        """Each high keeps to what may be spent, and one less would not."""
        with self.subTest(n=n, p=p, e=e):
            told = spent(n, p, e)
            self.check_form(told, n)
            highs = [high for low, high in told[1]]
            share = Fraction(*p)
            for t, high in enumerate(highs, start=1):
                most = Fraction(*e) * t / n
                self.assertLessEqual(high_by(told, t, share), most)
                if high > 0:
                    lesser = highs[:t - 1] + [high - 1]
                    plan = (t, tuple((-1, one) for one in lesser[:-1]) + ((lesser[-1] - 1, lesser[-1]),))
                    self.assertGreater(high_by(plan, t, share), most)

    def test_some_by_hand(self):
        # With 1/2 and 1/2: 1/4 may be spent by the first trial, none is; by the second 1/2, where two wins take 1/4
        # and one win or two would take 3/4.
        self.assertEqual(spent(2, HALF, HALF), (2, ((-1, 2), (1, 2))))
        # By the first 1/2 is just what one win takes; by the second all may be spent.
        self.assertEqual(spent(2, HALF, ONE), (2, ((-1, 1), (-1, 0))))
        self.assertEqual(spent(1, HALF, HALF), (1, ((0, 1),)))
        self.assertEqual(spent(1, HALF, (1, 3)), (1, ((1, 2),)))
        self.assertEqual(spent(1, HALF, ONE), (1, ((-1, 0),)))

    def test_just_what_may_be_spent_and_a_hair_less(self):
        # By two trials of three 1/4 may be spent, which two wins just take; two wins by three would take 1/4 more,
        # where only 1/8 is left, and three don't come any more.
        self.assertEqual(spent(3, HALF, (3, 8)), (3, ((-1, 2), (-1, 2), (2, 3))))
        self.assertEqual(spent(3, HALF, as_told(Fraction(3, 8) - Fraction(1, SIXTY)))[1][1], (-1, 3))
        for n in range(1, 13):
            won = weight(n, n, (2, 3))
            self.assertEqual(spent(1, won, won), (1, ((0, 1),)))
            self.assertEqual(spent(1, won, as_told(Fraction(*won) - Fraction(1, GREATEST))), (1, ((1, 2),)))

    def test_all_shares_with_few_trials(self):
        for n in (1, 2, 3, 4, 5):
            for p in CHANCES:
                for e in LEFT:
                    self.check_spent(n, p, e)

    def test_more_trials(self):
        for n in (6, 7, 8):
            for number, p in enumerate(CHANCES):
                self.check_spent(n, p, LEFT[(number + n) % len(LEFT)])

    def test_every_count_of_trials(self):
        for n in range(1, 13):
            for p, e in ((HALF, (1, 20)), ((1, 3), (1, 10)), ((4, 5), HALF), (LONG, (1, 3)), ((1, 5), NEARLY)):
                self.check_by_ends(n, p, e)

    def test_as_many_trials_as_there_can_be(self):
        self.assertEqual(spent(12, HALF, (1, 20)),
                         (12, ((-1, 2), (-1, 3), (-1, 4), (-1, 5), (-1, 6), (-1, 6), (-1, 7), (-1, 8), (-1, 8),
                               (-1, 9), (-1, 9), (9, 10))))
        for p in CHANCES:
            for e in (ZERO, HALF, ONE):
                self.check_by_ends(12, p, e)

    def test_nothing_to_spend(self):
        for n in range(1, 13):
            for p in ((1, 5), HALF, HARDLY, NEARLY, ONE):
                self.assertEqual(spent(n, p, ZERO)[1], tuple((-1, t + 1) for t in range(1, n)) + ((n, n + 1),))
            # Where nothing is ever won one win is never come to, whatever is left for it.
            for e in (ZERO, HALF, NEARLY):
                self.assertEqual(spent(n, ZERO, e)[1], ((-1, 1),) * (n - 1) + ((0, 1),))

    def test_all_to_spend(self):
        for n in range(1, 13):
            for p in CHANCES:
                self.assertEqual(spent(n, p, ONE)[1][-1], (-1, 0))
            self.assertEqual(spent(n, ONE, ONE)[1], tuple((-1, t + 1) for t in range(1, n)) + ((-1, 0),))

    def test_its_first_error_is_at_most_what_was_told(self):
        for n in range(1, 13):
            for p in CHANCES:
                for e in LEFT:
                    plan = spent(n, p, e)
                    for one in (ZERO, p, as_told(Fraction(*p) / 2)):
                        with self.subTest(n=n, p=p, e=e, one=one):
                            self.assertLessEqual(Fraction(*chance(plan, "high", one)), Fraction(*e))

    def test_shares_of_hundreds_of_figures_as_other_functions_tell_them(self):
        p = weight(5, 2, (SIXTY + 1, GREATEST))
        e = run_sum(5, 0, 1, (SIXTY + 1, GREATEST))
        self.assertGreater(min(len(str(p[1])), len(str(e[1]))), 250)
        for n in (1, 2, 4):
            self.check_spent(n, p, e)
            self.check_spent(n, e, p)

    def test_what_is_told_may_be_asked_of(self):
        plan = spent(4, HALF, (1, 4))
        self.assertEqual(ends(plan), ends_by_rows(plan))

    def test_asked_again_it_tells_the_same(self):
        first = [spent(n, (1, 3), (1, 10)) for n in range(1, 13)]
        self.assertEqual([spent(n, (1, 3), (1, 10)) for n in range(12, 0, -1)], first[::-1])


if __name__ == "__main__":
    unittest.main()
