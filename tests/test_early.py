import copy
import unittest
from collections import Counter
from fractions import Fraction
from functools import lru_cache
from itertools import product
from random import Random

from surestretch.early import chance, ends, errors_of, mean, plan_of, run_through
from surestretch.errors import NoPlan
from surestretch.trials import run_sum, weight
from test_ratios import GREATEST, NO_WHOLES, Checks, as_told
from test_rules import HALF, ONE, ZERO
from test_trials import SHARES

WORDS = ("low", "high")


def pairs_for(t):
    """All bounds that may stand for t trials, other than the last ones."""
    return [(low, high) for high in range(t + 2) for low in range(-1, high)]


def last_pairs(n):
    return [(low, low + 1) for low in range(-1, n + 1)]


def all_plans(n):
    choices = [pairs_for(t) for t in range(1, n)] + [last_pairs(n)]
    return [(n, bounds) for bounds in product(*choices)]


def scattered_plans():
    source = Random(8)
    told = []
    for n in range(4, 13):
        for wide in (1, 3):
            bounds = []
            for t in range(1, n):
                # About the middle, so that rows go on for a while and come to both ends.
                low = max(-1, t // 2 - wide + source.randrange(-1, 2))
                bounds.append((low, min(t + 1, max(low + 1, (t + 1) // 2 + wide + source.randrange(-1, 2)))))
            bounds.append(source.choice(last_pairs(n)[n // 3:n // 2 + 2]))
            told.append((n, tuple(bounds)))
    return told


# Never ended ahead of the last trial, for 1 to 12 of them; and ended by the first one lost or the first one won.
LATE = [(n, tuple((-1, t + 1) for t in range(1, n)) + ((n // 2, n // 2 + 1),)) for n in range(1, 13)]
AT_ONCE = [(n, ((0, 1),) * n) for n in range(1, 13)]
FIRST_WON = [(n, ((-1, 1),) * (n - 1) + ((0, 1),)) for n in range(1, 13)]
FIRST_LOST = [(n, tuple((t - 1, t + 1) for t in range(1, n)) + ((n - 1, n),)) for n in range(1, 13)]
NOT_ONE = [(n, ((-1, 0),) * n) for n in range(1, 13)]
NONE_HIGH = [(n, tuple((-1, t + 1) for t in range(1, n)) + ((n, n + 1),)) for n in range(1, 13)]
SMALL = all_plans(1) + all_plans(2) + all_plans(3)
PLANS = (SMALL[::5] + scattered_plans() + LATE[:8] + AT_ONCE[::4] + FIRST_WON[2:12:3] + FIRST_LOST[1:12:4]
         + NOT_ONE[::5] + NONE_HIGH[::5])


def end_of(plan, row):
    """Where a row is ended: each number of trials is asked anew."""
    for t in range(1, len(row) + 1):
        k = sum(row[:t])
        low, high = plan[1][t - 1]
        if k <= low or k >= high:
            return (t, k, "low" if k <= low else "high")
    return None


@lru_cache(maxsize=None)
def ends_by_rows(plan):
    """All rows of all lengths, but for those that were ended ahead of their last trial."""
    counts = Counter()
    for t in range(1, plan[0] + 1):
        for row in product((False, True), repeat=t):
            end = end_of(plan, row)
            if end is not None and end[0] == t:
                counts[end] += 1
    return [end + (counts[end],) for end in sorted(counts)]


@lru_cache(maxsize=None)
def full_rows(plan):
    """How many rows of all n trials have so many wins and are ended there, whatever comes behind."""
    return tuple(Counter((sum(row), end_of(plan, row)) for row in product((False, True), repeat=plan[0])).items())


def sum_over_rows(plan, p, value):
    n = plan[0]
    total = Fraction(0)
    for (wins, end), count in full_rows(plan):
        total += count * p ** wins * (1 - p) ** (n - wins) * value(end)
    return total


def chance_by_rows(plan, word, p):
    return sum_over_rows(plan, Fraction(*p), lambda end: end[2] == word)


def mean_by_rows(plan, p):
    return sum_over_rows(plan, Fraction(*p), lambda end: end[0])


class Made(unittest.TestCase):
    PAIRS = [(-1, 2), (0, 2), (1, 2)]
    AWAITED = (3, ((-1, 2), (0, 2), (1, 2)))

    def check_kinds(self, plan):
        self.assertIs(type(plan), tuple)
        self.assertEqual([type(part) for part in plan], [int, tuple])
        for bound in plan[1]:
            self.assertIs(type(bound), tuple)
            self.assertEqual([type(end) for end in bound], [int, int])

    def test_of_lists_and_of_tuples(self):
        lists = [list(pair) for pair in self.PAIRS]
        for bounds in (self.PAIRS, tuple(self.PAIRS), lists, tuple(lists), [lists[0], self.PAIRS[1], lists[2]]):
            with self.subTest(bounds):
                told = plan_of(3, bounds)
                self.assertEqual(told, self.AWAITED)
                self.check_kinds(told)

    def test_every_count_of_trials(self):
        for plan in LATE + AT_ONCE + FIRST_WON + FIRST_LOST + NOT_ONE + NONE_HIGH + scattered_plans():
            for bounds in (plan[1], list(plan[1]), [list(bound) for bound in plan[1]]):
                with self.subTest(n=plan[0], bounds=bounds):
                    told = plan_of(plan[0], bounds)
                    self.assertEqual(told, plan)
                    self.check_kinds(told)

    def test_all_small_pairs(self):
        for n in (1, 2):
            made = 0
            for bounds in product(product(range(-3, n + 4), repeat=2), repeat=n):
                fits = all(-1 <= low < high <= t + 1 for t, (low, high) in enumerate(bounds, start=1))
                if fits and bounds[-1][1] == bounds[-1][0] + 1:
                    made += 1
                    self.assertEqual(plan_of(n, bounds), (n, bounds))
                else:
                    self.assertRaises(NoPlan, plan_of, n, bounds)
            self.assertEqual(made, len(all_plans(n)))

    def test_what_is_handed_in_stays_and_changes_nothing_later(self):
        bounds = [[-1, 2], [0, 2], [1, 2]]
        kept = copy.deepcopy(bounds)
        told = plan_of(3, bounds)
        self.assertEqual(bounds, kept)
        bounds[0][0] = 0
        bounds[2].append(7)
        bounds.pop()
        self.assertEqual(told, self.AWAITED)

    def test_made_of_a_plan_it_is_the_same(self):
        for plan in PLANS:
            self.assertEqual(plan_of(*plan), plan)
            self.assertEqual(plan_of(*plan), plan_of(plan[0], list(plan[1])))


class Refused(unittest.TestCase):
    GOOD = [(-1, 2), (0, 2), (1, 2)]

    def check_refused(self, n, bounds):
        with self.subTest(n=repr(n), bounds=repr(bounds)), self.assertRaises(NoPlan):
            plan_of(n, bounds)

    def test_an_n_that_is_none(self):
        for n in NO_WHOLES + (0, -1, -3, 1, 2, 4, 12, 13, GREATEST, -GREATEST, (3, 1), [3], "3", 3.0):
            self.check_refused(n, self.GOOD)
            self.check_refused(n, tuple(self.GOOD))
        # True and 1.0 stand for 1 elsewhere.
        for n in (True, 1.0, "1", None, 0, 2):
            self.check_refused(n, [(0, 1)])
        for n in (False, 0, None, -1):
            self.check_refused(n, [])
            self.check_refused(n, ())

    def test_an_n_beyond_12(self):
        self.assertEqual(plan_of(12, [(0, 1)] * 12), AT_ONCE[11])
        for n in (13, 14, 60):
            self.check_refused(n, [(0, 1)] * n)
            self.check_refused(n, [(-1, t + 1) for t in range(1, n)] + [(0, 1)])

    def test_a_pair_that_lacks_or_is_one_too_many(self):
        for n in range(1, 13):
            for count in (0, n - 1, n + 1, n + 2):
                self.check_refused(n, [(0, 1)] * count)
                self.check_refused(n, ((0, 1),) * count)

    def test_a_pair_that_is_none(self):
        wrong = NO_WHOLES + (0, 3, GREATEST, (0, 1, 2), [0, 1, 1], (0,), [0], "01", {0: 0, 1: 1}, {0, 1}, {0: 0, 1: 1},
                             range(2), (), [], iter([0, 1]))
        for thing in wrong:
            for place in range(3):
                self.check_refused(3, [(0, 1)] * place + [thing] + [(0, 1)] * (2 - place))

    def test_a_number_that_is_none(self):
        wrong = NO_WHOLES + ((0, 1), (1, 1), (1, 2), [1], "0", "1", "-1", 0.0, 1.0, -1.0, Fraction(1))
        for thing in wrong:
            for place in range(3):
                self.check_refused(3, [(0, 1)] * place + [(thing, 1)] + [(0, 1)] * (2 - place))
                self.check_refused(3, [(0, 1)] * place + [[0, thing]] + [(0, 1)] * (2 - place))
                self.check_refused(3, [(0, 1)] * place + [(-1, thing)] + [(0, 1)] * (2 - place))
            self.check_refused(1, [(thing, thing)])
        self.check_refused(1, [(False, True)])
        self.check_refused(1, [(False, 1)])
        self.check_refused(1, [(0, True)])

    def test_a_low_below_minus_1(self):
        for n in (1, 2, 12):
            for place in range(n):
                for low in (-2, -3, -GREATEST):
                    bounds = list(LATE[n - 1][1])
                    bounds[place] = (low, bounds[place][1])
                    self.check_refused(n, bounds)
                    bounds[place] = (low, low + 1)
                    self.check_refused(n, bounds)

    def test_a_low_no_less_than_its_high(self):
        for place in range(4):
            for low, high in ((0, 0), (1, 1), (1, 0), (2, 1), (0, -1), (-1, -1), (GREATEST, 1), (2, 2)):
                self.check_refused(4, [(0, 1)] * place + [(low, high)] + [(0, 1)] * (3 - place))

    def test_a_high_above_the_trials_and_1(self):
        for n in range(1, 13):
            for place in range(n):
                bounds = list(LATE[n - 1][1])
                self.assertEqual(plan_of(n, bounds), LATE[n - 1])
                for high in (place + 3, place + 4, GREATEST):
                    self.check_refused(n, bounds[:place] + [(high - 1, high)] + bounds[place + 1:])
                    self.check_refused(n, bounds[:place] + [(-1, high)] + bounds[place + 1:])

    def test_a_last_high_that_is_not_its_low_and_1(self):
        for n in range(1, 13):
            for low, high in pairs_for(n):
                bounds = list(LATE[n - 1][1][:-1]) + [(low, high)]
                if high == low + 1:
                    self.assertEqual(plan_of(n, bounds), (n, tuple(bounds)))
                else:
                    self.check_refused(n, bounds)

    def test_bounds_that_are_none(self):
        for bounds in NO_WHOLES + (0, 1, "a", "01", "(0, 1)", {0: (0, 1)}, {(0, 1): 0}, {(0, 1)}, range(1),
                                   iter([(0, 1)]), zip([0], [1])):
            self.check_refused(1, bounds)

    def test_a_list_within_itself(self):
        ring = []
        ring.extend([ring, ring])
        self.check_refused(2, ring)
        self.check_refused(ring, [(0, 1)] * 2)
        self.check_refused(2, [ring, (0, 1)])

    def test_what_is_refused_is_not_changed(self):
        bounds = [[-1, 2], [0, 2]]
        self.check_refused(2, bounds)
        self.assertEqual(bounds, [[-1, 2], [0, 2]])


class Ends(unittest.TestCase):
    def check_ends(self, plan):
        with self.subTest(plan):
            told = ends(plan)
            self.assertIs(type(told), list)
            self.assertEqual(told, ends_by_rows(plan))
            for end in told:
                self.assertEqual([type(part) for part in (end,) + end], [tuple, int, int, str, int])

    def test_some_by_hand(self):
        self.assertEqual(ends((2, ((-1, 2), (0, 1)))), [(2, 0, "low", 1), (2, 1, "high", 2), (2, 2, "high", 1)])
        self.assertEqual(ends((3, ((-1, 1), (0, 2), (1, 2)))),
                         [(1, 1, "high", 1), (2, 0, "low", 1), (3, 1, "low", 1), (3, 2, "high", 1)])
        self.assertEqual(ends((1, ((-1, 0),))), [(1, 0, "high", 1), (1, 1, "high", 1)])
        self.assertEqual(ends((1, ((1, 2),))), [(1, 0, "low", 1), (1, 1, "low", 1)])

    def test_all_small_ones(self):
        for plan in SMALL:
            self.check_ends(plan)

    def test_larger_ones(self):
        for plan in PLANS:
            self.check_ends(plan)

    def test_every_count_of_trials(self):
        for n in range(1, 13):
            self.assertEqual(ends(AT_ONCE[n - 1]), [(1, 0, "low", 1), (1, 1, "high", 1)])
            self.assertEqual(ends(NOT_ONE[n - 1]), [(1, 0, "high", 1), (1, 1, "high", 1)])
            self.assertEqual([end[:2] for end in ends(LATE[n - 1])], [(n, k) for k in range(n + 1)])
            self.assertEqual(sum(end[3] for end in ends(LATE[n - 1])), 2 ** n)
            self.assertEqual(ends(FIRST_WON[n - 1]), [(t, 1, "high", 1) for t in range(1, n)]
                             + [(n, 0, "low", 1), (n, 1, "high", 1)])

    def test_each_once_and_all_rows_come_to_one_of_them(self):
        for plan in PLANS:
            with self.subTest(plan):
                told = ends(plan)
                self.assertEqual(sorted({end[:2] for end in told}), [end[:2] for end in told])
                self.assertEqual(sum(ways * 2 ** (plan[0] - t) for t, k, word, ways in told), 2 ** plan[0])

    def test_the_list_is_the_askers_own(self):
        plan = PLANS[30]
        first = ends(plan)
        kept = list(first)
        first.clear()
        first.append("else")
        second = ends(plan)
        self.assertEqual(second, kept)
        ends(PLANS[31])
        self.assertEqual(second, kept)
        self.assertIsNot(ends(plan), second)


class RunThrough(unittest.TestCase):
    def check_row(self, plan, row):
        kept = list(row)
        told = run_through(plan, row)
        self.assertEqual(row, kept)
        self.assertEqual(told, end_of(plan, row[:plan[0]]), (plan, row))
        if told is not None:
            self.assertEqual([type(part) for part in (told,) + told], [tuple, int, int, str])

    def test_some_by_hand(self):
        plan = (3, ((-1, 2), (0, 2), (1, 2)))
        self.assertIsNone(run_through(plan, []))
        self.assertIsNone(run_through(plan, [True]))
        self.assertIsNone(run_through(plan, [False, True]))
        self.assertEqual(run_through(plan, [True, True]), (2, 2, "high"))
        self.assertEqual(run_through(plan, [False, False]), (2, 0, "low"))
        self.assertEqual(run_through(plan, [False, True, True]), (3, 2, "high"))
        self.assertEqual(run_through(plan, [False, True, False, True, True]), (3, 1, "low"))

    def test_all_rows_of_small_plans(self):
        for plan in SMALL:
            for count in range(plan[0] + 3):
                for row in product((False, True), repeat=count):
                    self.check_row(plan, list(row))

    def test_rows_of_larger_plans(self):
        source = Random(3)
        for plan in PLANS:
            for count in (0, 1, 2, plan[0] - 1, plan[0], plan[0] + 1, 50, 100):
                for share in (1, 3, 5):
                    self.check_row(plan, [source.randrange(6) < share for place in range(count)])
                self.check_row(plan, [True] * count)
                self.check_row(plan, [False] * count)

    def test_an_empty_row_is_not_ended(self):
        for plan in PLANS:
            self.assertIsNone(run_through(plan, []))

    def test_a_row_as_long_as_the_trials_always_is(self):
        for plan in SMALL:
            for row in product((False, True), repeat=plan[0]):
                self.assertIsNotNone(run_through(plan, list(row)))

    def test_what_stands_behind_the_end_does_not_matter(self):
        source = Random(4)
        for plan in PLANS:
            row = [source.randrange(2) == 0 for place in range(plan[0])]
            told = run_through(plan, row)
            for more in ([], [True], [False], [True] * 80, [False] * 80):
                self.assertEqual(run_through(plan, row[:told[0]] + more), told)
            self.assertIsNone(run_through(plan, row[:told[0] - 1]))

    def test_where_rows_are_ended_are_the_ends(self):
        for plan in SMALL:
            counts = Counter()
            for t in range(1, plan[0] + 1):
                counts.update(run_through(plan, list(row)) for row in product((False, True), repeat=t)
                              if run_through(plan, list(row[:-1])) is None)
            counts.pop(None, None)
            self.assertEqual([end + (counts[end],) for end in sorted(counts)], ends(plan))


class Chances(Checks):
    def check_plan(self, plan, p):
        with self.subTest(plan=plan, p=p):
            told = [chance(plan, word, p) for word in WORDS]
            for word, found in zip(WORDS, told):
                self.check_fraction(found, chance_by_rows(plan, word, p))
            self.assertEqual(sum(Fraction(*found) for found in told), 1)
            self.check_fraction(mean(plan, p), mean_by_rows(plan, p))

    def test_some_by_hand(self):
        plan = (3, ((-1, 1), (0, 2), (1, 2)))
        # Ended high by a first win, or by a loss and two wins.
        self.assertEqual(chance(plan, "high", (1, 3)), as_told(Fraction(1, 3) + Fraction(2, 27)))
        self.assertEqual(chance(plan, "low", (1, 3)), as_told(Fraction(4, 9) + Fraction(4, 27)))
        self.assertEqual(mean(plan, (1, 3)), as_told(Fraction(1, 3) + 2 * Fraction(4, 9) + 3 * Fraction(6, 27)))

    def test_shares_of_all_sizes(self):
        for number, plan in enumerate(PLANS):
            for p in SHARES[number % 3::3] + [ZERO, ONE]:
                self.check_plan(plan, p)

    def test_all_small_ones(self):
        for plan in SMALL:
            for p in (ZERO, (1, 3), HALF, (5, 7), ONE):
                self.check_plan(plan, p)

    def test_at_0_and_at_1_one_row_alone_comes(self):
        for plan in PLANS:
            for p, row in ((ZERO, [False] * 12), (ONE, [True] * 12)):
                t, k, word = run_through(plan, row)
                self.assertEqual(chance(plan, word, p), ONE)
                self.assertEqual(mean(plan, p), (t, 1))

    def test_never_ended_ahead_of_the_last_it_is_the_sum_of_a_run(self):
        for plan in LATE:
            n = plan[0]
            for p in SHARES:
                with self.subTest(n=n, p=p):
                    self.assertEqual(chance(plan, "low", p), run_sum(n, 0, n // 2, p))
                    self.assertEqual(chance(plan, "high", p), run_sum(n, n // 2 + 1, n, p))
                    self.assertEqual(mean(plan, p), (n, 1))

    def test_as_the_share_rises_the_chance_of_high_never_falls(self):
        rising = sorted({Fraction(*p) for p in SHARES} | {Fraction(k, 16) for k in range(17)})
        for plan in PLANS:
            told = [Fraction(*chance(plan, "high", as_told(p))) for p in rising]
            with self.subTest(plan):
                self.assertEqual(told, sorted(told))

    def test_a_share_of_hundreds_of_figures_as_another_function_tells_it(self):
        p = weight(6, 2, (10 ** 59 + 1, GREATEST))
        self.assertGreater(len(str(p[1])), 300)
        for plan in (SMALL[7], SMALL[90], PLANS[28]):
            self.check_plan(plan, p)

    def test_the_mean_is_from_1_to_the_trials(self):
        for plan in PLANS:
            for p in (ZERO, (1, 7), HALF, (1, GREATEST), ONE):
                self.assertTrue(1 <= Fraction(*mean(plan, p)) <= plan[0])


class Errors(Checks):
    def test_some_by_hand(self):
        plan = (2, ((-1, 2), (0, 1)))
        self.assertEqual(errors_of(plan, (1, 4), (3, 4)), ((7, 16), (1, 16)))
        self.assertEqual(errors_of((1, ((0, 1),)), (1, 4), (1, 3)), ((1, 4), (2, 3)))

    def test_high_with_the_one_and_low_with_the_other(self):
        for number, plan in enumerate(PLANS):
            for one, other in zip(SHARES[number % 4::4], SHARES[number % 4 + 1::4]):
                one, other = sorted((one, other), key=lambda p: Fraction(*p))
                with self.subTest(plan=plan, one=one, other=other):
                    told = errors_of(plan, one, other)
                    self.assertIs(type(told), tuple)
                    self.assertEqual(len(told), 2)
                    self.check_fraction(told[0], chance_by_rows(plan, "high", one))
                    self.check_fraction(told[1], chance_by_rows(plan, "low", other))

    def test_with_the_same_share_twice_they_come_to_1(self):
        for plan in PLANS:
            told = errors_of(plan, (2, 5), (2, 5))
            self.assertEqual(Fraction(*told[0]) + Fraction(*told[1]), 1)

    def test_further_out_they_are_no_more(self):
        one, other = (2, 5), (3, 5)
        for plan in PLANS:
            told = [Fraction(*error) for error in errors_of(plan, one, other)]
            for p in SHARES:
                if Fraction(*p) <= Fraction(*one):
                    self.assertLessEqual(chance_by_rows(plan, "high", p), told[0])
                if Fraction(*p) >= Fraction(*other):
                    self.assertLessEqual(chance_by_rows(plan, "low", p), told[1])


class Asked(unittest.TestCase):
    def test_the_same_asked_again_is_told_the_same(self):
        plan = (3, ((-1, 2), (0, 2), (1, 2)))
        row = [False, True, True]
        asks = (ends, lambda one: run_through(one, row), lambda one: chance(one, "high", (2, 3)),
                lambda one: mean(one, (2, 3)), lambda one: errors_of(one, (1, 3), (2, 3)), lambda one: plan_of(*one))
        for ask in asks:
            first = ask(plan)
            ask(LATE[4])
            self.assertEqual(ask(plan), first)
        self.assertEqual(plan, (3, ((-1, 2), (0, 2), (1, 2))))
        self.assertEqual(row, [False, True, True])


if __name__ == "__main__":
    unittest.main()
