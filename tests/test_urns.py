import inspect
import unittest
from fractions import Fraction
from itertools import combinations, combinations_with_replacement
from math import comb
from random import Random

from surestretch import urns
from surestretch.errors import NotSure, NoRule
from surestretch.urns import count_rule, urn_cover, urn_least, urn_tails, urn_tight, urn_weight
from test_makers import ASKED, KINDS, NEARLY
from test_ratios import GREATEST, NO_WHOLES, Checks, as_told
from test_rules import HALF, ONE, ZERO

# All numbers of things and of draws.
SIZES = [(N, n) for N in range(1, 31) for n in range(1, min(N, 10) + 1)]
SOME = [(1, 1), (2, 1), (2, 2), (3, 2), (5, 3), (7, 7), (10, 10), (12, 4), (20, 9), (30, 1), (30, 10)]


def weights_by_draws(N, T, n):
    """Goes through all draws, one by one; the things from 0 to T - 1 are the true ones."""
    found = [0] * (n + 1)
    draws = list(combinations(range(N), n))
    for draw in draws:
        found[len([thing for thing in draw if thing < T])] += 1
    return [Fraction(count, len(draws)) for count in found]


def weight_by_formula(N, T, n, k):
    if k < 0 or k > n:
        return Fraction(0)
    return Fraction(comb(T, k) * comb(N - T, n - k), comb(N, n))


def cover_by_formula(rule, T):
    N, n, stretches = rule
    return sum((weight_by_formula(N, T, n, k) for k, (low, high) in enumerate(stretches) if low <= T <= high),
               Fraction(0))


def covers_by_formula(rule):
    return [cover_by_formula(rule, T) for T in range(rule[0] + 1)]


def is_count_rule(N, stretches):
    return (all(0 <= low <= high <= N for low, high in stretches)
            and all(one[0] <= other[0] and one[1] <= other[1] for one, other in zip(stretches, stretches[1:])))


def moved_by_formula(rule, k, end):
    N, n, stretches = rule
    low, high = stretches[k]
    changed = (low + 1, high) if end == "low" else (low, high - 1)
    stretches = stretches[:k] + (changed,) + stretches[k + 1:]
    return (N, n, stretches) if is_count_rule(N, stretches) else None


def tight_by_formula(rule, share):
    n = rule[1]
    for end, outcomes in (("high", range(n + 1)), ("low", range(n, -1, -1))):
        for k in outcomes:
            while True:
                other = moved_by_formula(rule, k, end)
                if other is None or min(covers_by_formula(other)) < share:
                    break
                rule = other
    return rule


def tails_by_formula(N, n, share):
    """For each outcome all counts that its stretch has."""
    t = (1 - share) / 2
    told = []
    for k in range(n + 1):
        told.append([T for T in range(N + 1)
                     if sum(weight_by_formula(N, T, n, j) for j in range(k, n + 1)) > t
                     and sum(weight_by_formula(N, T, n, j) for j in range(k + 1)) > t])
    return told


def all_count_rules(N, n):
    rows = list(combinations_with_replacement(range(N + 1), n + 1))
    return [(N, n, tuple(zip(lows, highs))) for lows in rows for highs in rows
            if all(low <= high for low, high in zip(lows, highs))]


def scattered_count_rules():
    source = Random(19)
    told = []
    for N, n in SIZES[::7] + SOME:
        for spread in (0, 1):
            lows = sorted(source.randrange((N + 1) // (1 + spread) or 1) for k in range(n + 1))
            highs = sorted(source.randrange(N * spread // 2, N + 1) for k in range(n + 1))
            told.append((N, n, tuple((min(pair), max(pair)) for pair in zip(lows, highs))))
    return told


SMALL = all_count_rules(1, 1) + all_count_rules(2, 1) + all_count_rules(3, 2)[::3]
RULES = SMALL + scattered_count_rules() + [(N, n, ((0, N),) * (n + 1)) for N, n in SOME]


class Weights(Checks):
    def test_some_by_hand(self):
        self.assertEqual([urn_weight(5, 2, 2, k) for k in range(3)], [(3, 10), (3, 5), (1, 10)])
        self.assertEqual([urn_weight(4, 1, 3, k) for k in range(4)], [(1, 4), (3, 4), ZERO, ZERO])
        self.assertEqual([urn_weight(4, 3, 3, k) for k in range(4)], [ZERO, ZERO, (3, 4), (1, 4)])
        self.assertEqual([urn_weight(1, T, 1, k) for T in (0, 1) for k in (0, 1)], [ONE, ZERO, ZERO, ONE])

    def test_small_ones_by_all_draws(self):
        for N in range(1, 9):
            for n in range(1, N + 1):
                for T in range(N + 1):
                    for k, awaited in enumerate(weights_by_draws(N, T, n)):
                        with self.subTest(N=N, T=T, n=n, k=k):
                            self.check_fraction(urn_weight(N, T, n, k), awaited)

    def test_every_number_of_things_and_of_draws(self):
        for N, n in SIZES:
            for T in range(N % 3, N + 1, 3):
                for k in range(n + 1):
                    with self.subTest(N=N, T=T, n=n, k=k):
                        self.check_fraction(urn_weight(N, T, n, k), weight_by_formula(N, T, n, k))

    def test_all_weights_come_to_1(self):
        for N, n in SIZES:
            for T in range(N + 1):
                with self.subTest(N=N, T=T, n=n):
                    told = [urn_weight(N, T, n, k) for k in range(n + 1)]
                    self.assertEqual(sum(top * (comb(N, n) // bottom) for top, bottom in told), comb(N, n))

    def test_outcomes_that_cannot_come(self):
        for N, n in SIZES:
            for T in range(N + 1):
                for k in range(n + 1):
                    if k > T or n - k > N - T:
                        with self.subTest(N=N, T=T, n=n, k=k):
                            self.assertEqual(urn_weight(N, T, n, k), ZERO)

    def test_none_true_all_true_and_all_drawn(self):
        for N, n in SIZES:
            self.assertEqual([urn_weight(N, 0, n, k) for k in range(n + 1)], [ONE] + [ZERO] * n)
            self.assertEqual([urn_weight(N, N, n, k) for k in range(n + 1)], [ZERO] * n + [ONE])
            if n == N:
                for T in range(N + 1):
                    self.assertEqual([urn_weight(N, T, N, k) for k in range(N + 1)],
                                     [ONE if k == T else ZERO for k in range(N + 1)])

    def test_somewhat_beyond_nothing_is_refused(self):
        self.assertEqual([urn_weight(5, 2, 2, k) for k in (-2, -1, 3, 4)], [ZERO] * 4)
        self.assertEqual([urn_weight(5, T, 2, k) for T in (-1, 6) for k in range(3)], [ZERO] * 6)
        self.check_fraction(urn_weight(33, 12, 11, 4), weight_by_formula(33, 12, 11, 4))


class Made(unittest.TestCase):
    PAIRS = [(0, 2), (1, 4), (3, 5)]

    def test_of_lists_and_of_tuples(self):
        lists = [list(pair) for pair in self.PAIRS]
        for stretches in (self.PAIRS, tuple(self.PAIRS), lists, tuple(lists), [lists[0], self.PAIRS[1], lists[2]]):
            with self.subTest(stretches):
                told = count_rule(5, 2, stretches)
                self.assertEqual(told, (5, 2, ((0, 2), (1, 4), (3, 5))))
                self.assertEqual([type(part) for part in (told,) + told], [tuple, int, int, tuple])
                self.assertEqual({type(stretch) for stretch in told[2]}, {tuple})

    def test_every_number_of_things_and_of_draws(self):
        for N, n in SIZES:
            for pair in ((0, N), (0, 0), (N, N)):
                self.assertEqual(count_rule(N, n, [pair] * (n + 1)), (N, n, (pair,) * (n + 1)))

    def test_a_count_rule_may_be_made_of_one(self):
        for rule in RULES:
            self.assertEqual(count_rule(*rule), rule)

    def test_what_was_handed_in_is_kept_from_and_by_the_rule(self):
        stretches = [[0, 1], [1, 2]]
        told = count_rule(2, 1, stretches)
        self.assertEqual(stretches, [[0, 1], [1, 2]])
        stretches[0][1] = 2
        stretches[1].append(2)
        stretches.append(None)
        self.assertEqual(told, (2, 1, ((0, 1), (1, 2))))

    def test_it_is_one_just_where_all_holds(self):
        pairs = [(low, high) for low in range(-1, 4) for high in range(-1, 4)]
        made = 0
        for first in pairs:
            for second in pairs:
                with self.subTest(first=first, second=second):
                    if is_count_rule(2, (first, second)):
                        made += 1
                        self.assertEqual(count_rule(2, 1, [first, second]), (2, 1, (first, second)))
                    else:
                        self.assertRaises(NoRule, count_rule, 2, 1, [first, second])
        self.assertEqual(made, len(all_count_rules(2, 1)))


class Refused(unittest.TestCase):
    GOOD = [(0, 2), (1, 4), (3, 5)]

    def check_refused(self, N, n, stretches):
        with self.subTest(N=repr(N), n=repr(n), stretches=repr(stretches)), self.assertRaises(NoRule):
            count_rule(N, n, stretches)

    def test_an_N_that_is_none(self):
        for N in NO_WHOLES + (0, -1, 1, 31, 32, GREATEST, -GREATEST, (5, 1), [5], "5", 5.0):
            self.check_refused(N, 2, self.GOOD)
            self.check_refused(N, 2, [(0, 0)] * 3)
            self.check_refused(N, 1, [(0, 0)] * 2 if N != 1 else [(0, 2)] * 2)
        # True and 1.0 stand for 1 elsewhere.
        self.check_refused(True, 1, [(0, 1)] * 2)
        self.check_refused(1.0, 1, [(0, 1)] * 2)
        self.check_refused(31, 10, [(0, 30)] * 11)

    def test_an_n_that_is_none(self):
        for n in NO_WHOLES + (0, -1, 1, 3, 5, 10, 11, GREATEST, -GREATEST, (2, 1), [2], "2", 2.0):
            self.check_refused(5, n, self.GOOD)
            self.check_refused(5, n, tuple(self.GOOD))
        for n in (0, -1, 11, 12):
            self.check_refused(30, n, [(0, 30)] * (n + 1))
        self.check_refused(5, True, [(0, 5)] * 2)
        self.check_refused(5, False, [(0, 5)])

    def test_more_drawn_than_there_are(self):
        for N in range(1, 10):
            self.assertEqual(count_rule(N, N, [(0, N)] * (N + 1))[:2], (N, N))
            for n in range(N + 1, 11):
                self.check_refused(N, n, [(0, N)] * (n + 1))

    def test_a_stretch_that_lacks_or_is_one_too_many(self):
        for n in range(1, 11):
            for count in (0, 1, n, n + 2, n + 3):
                self.check_refused(30, n, [(0, 30)] * count)
                self.check_refused(30, n, ((0, 30),) * count)

    def test_a_stretch_that_is_none(self):
        wrong = NO_WHOLES + (0, 3, GREATEST, (1, 2, 3), [1, 4, 4], (1,), [1], "14", {1: 1, 4: 4}, {1, 4}, {0: 1, 1: 4},
                             range(1, 3), (), [])
        for thing in wrong:
            for place in range(3):
                self.check_refused(5, 2, self.GOOD[:place] + [thing] + self.GOOD[place + 1:])

    def test_an_end_that_is_none(self):
        wrong = NO_WHOLES + (-1, 6, 7, GREATEST, -GREATEST, (0, 1), (1, 1), (2, 1), [1], "0", "1", 0.0, 1.0)
        for thing in wrong:
            for place in range(3):
                whole = [(0, 5)] * 3
                self.check_refused(5, 2, whole[:place] + [(thing, 5)] + whole[place + 1:])
                self.check_refused(5, 2, whole[:place] + [[0, thing]] + whole[place + 1:])
            self.check_refused(5, 2, [(thing, thing)] * 3)

    def test_a_low_above_its_high(self):
        for low, high in ((1, 0), (5, 4), (5, 0)):
            self.check_refused(5, 2, [(low, high)] * 3)
            self.check_refused(5, 2, [(0, high), (0, high), (low, high)])

    def test_a_low_or_a_high_less_than_that_ahead(self):
        for place in range(10):
            ends = [3] * place + [4] + [3] + [4] * (9 - place)
            self.check_refused(30, 10, [(low, 30) for low in ends])
            self.check_refused(30, 10, [(0, high) for high in ends])

    def test_stretches_that_are_none(self):
        for stretches in NO_WHOLES + (0, 2, "ab", "01", {0: (0, 5), 1: (0, 5)}, {(0, 5): 0, (1, 5): 0},
                                      {(0, 5), (1, 5)}, range(2), iter([(0, 5)] * 2), zip([0, 0], [5, 5])):
            self.check_refused(5, 1, stretches)

    def test_a_list_within_itself(self):
        ring = []
        ring.extend([ring, ring])
        self.check_refused(5, 1, ring)
        self.check_refused(ring, 1, [(0, 5)] * 2)
        self.check_refused(5, ring, [(0, 5)] * 2)

    def test_what_is_refused_is_not_changed(self):
        stretches = [[0, 4], [0, 3]]
        self.check_refused(5, 1, stretches)
        self.assertEqual(stretches, [[0, 4], [0, 3]])


class Covers(Checks):
    def test_some_by_hand(self):
        rule = (4, 2, ((0, 1), (1, 3), (3, 4)))
        self.assertEqual([urn_cover(rule, T) for T in range(5)], [ONE, ONE, (2, 3), ONE, ONE])
        self.assertEqual(urn_least(rule), ((2, 3), 2))
        none = (4, 2, ((0, 0), (0, 0), (4, 4)))
        self.assertEqual([urn_cover(none, T) for T in range(5)], [ONE, ZERO, ZERO, ZERO, ONE])
        self.assertEqual(urn_least(none), (ZERO, 1))

    def test_at_every_count(self):
        for rule in RULES:
            for T, awaited in enumerate(covers_by_formula(rule)):
                with self.subTest(rule=rule, T=T):
                    self.check_fraction(urn_cover(rule, T), awaited)

    def test_the_least_and_the_least_count_with_it(self):
        for rule in RULES:
            with self.subTest(rule):
                awaited = covers_by_formula(rule)
                told = urn_least(rule)
                self.assertIs(type(told), tuple)
                self.check_fraction(told[0], min(awaited))
                self.assertIs(type(told[1]), int)
                self.assertEqual(told[1], awaited.index(min(awaited)))

    def test_the_least_one_at_either_end(self):
        for N, n in SOME:
            self.assertEqual(urn_least((N, n, ((0, N),) * (n + 1))), (ONE, 0))
            self.assertEqual(urn_least((N, n, ((1, N),) * (n + 1))), (ZERO, 0))
            self.assertEqual(urn_least((N, n, ((0, N - 1),) * (n + 1))), (ZERO, N))

    def test_asked_again_they_tell_the_same_and_change_nothing(self):
        rule = (4, 2, ((0, 1), (1, 3), (3, 4)))
        for ask in (urn_least, lambda one: urn_cover(one, 2), lambda one: urn_tight(one, HALF)):
            first = ask(rule)
            ask((4, 2, ((0, 4),) * 3))
            self.assertEqual(ask(rule), first)
            self.assertEqual(rule, (4, 2, ((0, 1), (1, 3), (3, 4))))


class Tails(unittest.TestCase):
    def check_tails(self, N, n, share):
        with self.subTest(N=N, n=n, share=share):
            told = urn_tails(N, n, share)
            self.assertEqual([type(part) for part in (told,) + told], [tuple, int, int, tuple])
            self.assertEqual(told[:2], (N, n))
            self.assertEqual(count_rule(*told), told)
            self.assertEqual([list(range(low, high + 1)) for low, high in told[2]],
                             tails_by_formula(N, n, Fraction(*share)))
            self.assertGreaterEqual(min(covers_by_formula(told)), Fraction(*share))

    def test_some_by_hand(self):
        # 1/4 may be left: of 4 things and 2 drawn, none true comes with weight 1, 1/2, 1/6, 0, 0.
        self.assertEqual(urn_tails(4, 2, HALF), (4, 2, ((0, 1), (1, 3), (3, 4))))
        self.assertEqual(urn_tails(4, 2, (9, 10)), (4, 2, ((0, 2), (1, 3), (2, 4))))
        self.assertEqual(urn_tails(3, 3, HALF), (3, 3, ((0, 0), (1, 1), (2, 2), (3, 3))))
        self.assertEqual(urn_tails(1, 1, ONE), (1, 1, ((0, 0), (1, 1))))

    def test_a_sum_that_is_just_what_may_be_left_is_not_more(self):
        # Of 4 things and 2 drawn 1/6 is the weight of none true where 2 are: left at 2/3 is just as much.
        self.assertEqual(urn_tails(4, 2, (2, 3))[2][0], (0, 1))
        self.assertEqual(urn_tails(4, 2, as_told(Fraction(2, 3) + Fraction(1, GREATEST)))[2][0], (0, 2))
        self.assertEqual(urn_tails(4, 2, (2, 3))[2][2], (3, 4))

    def test_every_number_of_things_and_of_draws(self):
        for number, (N, n) in enumerate(SIZES):
            self.check_tails(N, n, ASKED[number % len(ASKED)])

    def test_shares_of_all_sizes(self):
        for N, n in SOME:
            for share in ASKED:
                self.check_tails(N, n, share)

    def test_at_a_share_of_1_all_that_can_be(self):
        for N, n in SIZES:
            self.assertEqual(urn_tails(N, n, ONE), (N, n, tuple((k, N - n + k) for k in range(n + 1))))

    def test_asked_again_it_tells_the_same(self):
        first = [urn_tails(N, n, (4, 5)) for N, n in SOME]
        self.assertEqual([urn_tails(N, n, (4, 5)) for N, n in reversed(SOME)], first[::-1])


class Tight(unittest.TestCase):
    def check_tight(self, rule, share):
        with self.subTest(rule=rule, share=share):
            kept = count_rule(*rule)
            told = urn_tight(rule, share)
            self.assertEqual(rule, kept)
            self.assertEqual(count_rule(*told), told)
            self.assertEqual(told, tight_by_formula(rule, Fraction(*share)))
            self.assertTrue(all(outer[0] <= inner[0] and inner[1] <= outer[1]
                                for inner, outer in zip(told[2], rule[2])))
            self.assertGreaterEqual(min(covers_by_formula(told)), Fraction(*share))
            for k in range(rule[1] + 1):
                for end in KINDS:
                    other = moved_by_formula(told, k, end)
                    if other is not None:
                        self.assertLess(min(covers_by_formula(other)), Fraction(*share))
            self.assertEqual(urn_tight(told, share), told)

    def check_not_sure(self, rule, share):
        with self.subTest(rule=rule, share=share):
            with self.assertRaises(NotSure) as caught:
                urn_tight(rule, share)
            lacking = [T for T, cover in enumerate(covers_by_formula(rule)) if cover < Fraction(*share)]
            self.assertEqual(caught.exception.at, lacking[0])
            self.assertIs(type(caught.exception.at), int)
            self.assertEqual(count_rule(*rule), rule)

    def test_some_by_hand(self):
        whole = (2, 1, ((0, 2), (0, 2)))
        # At 1 either outcome is enough, and the high of 0 is asked first: so 1 is due at the outcome 1.
        self.assertEqual(urn_tight(whole, HALF), (2, 1, ((0, 0), (1, 2))))
        self.assertEqual(urn_tight(whole, ONE), (2, 1, ((0, 1), (1, 2))))
        self.assertEqual(urn_tight(whole, ZERO), (2, 1, ((0, 0), (0, 0))))

    def test_all_small_ones(self):
        for rule in SMALL:
            for share in ((1, 3), HALF, (2, 3), ONE):
                if min(covers_by_formula(rule)) >= Fraction(*share):
                    self.check_tight(rule, share)
                else:
                    self.check_not_sure(rule, share)

    def test_rules_made_by_tails(self):
        for number, (N, n) in enumerate(SIZES[::6] + SOME):
            share = ASKED[number % len(ASKED)]
            self.check_tight(urn_tails(N, n, share), share)

    def test_rules_that_hold_all(self):
        for N, n in SOME[:-1]:
            for share in (HALF, (9, 10), NEARLY):
                self.check_tight((N, n, ((0, N),) * (n + 1)), share)

    def test_as_many_things_and_draws_as_there_can_be(self):
        self.check_tight((30, 10, ((0, 30),) * 11), (9, 10))

    def test_just_as_sure_as_it_is_and_a_hair_more(self):
        for rule in RULES:
            lowest = min(covers_by_formula(rule))
            if lowest > 0 and rule[0] < 20:
                self.check_tight(rule, as_told(lowest))
            if lowest < 1:
                self.check_not_sure(rule, as_told(lowest + Fraction(1, GREATEST)))

    def test_the_least_count_that_lacks_and_not_the_one_that_lacks_most(self):
        rule = (4, 1, ((0, 1), (4, 4)))
        # The covers are 1, 3/4, 0, 0 and 1: to 9/10 it isn't sure at 1, though it lacks most at 2.
        self.assertEqual([urn_cover(rule, T) for T in range(5)], [ONE, (3, 4), ZERO, ZERO, ONE])
        self.check_not_sure(rule, (9, 10))
        self.check_not_sure(rule, HALF)
        self.check_not_sure((4, 1, ((1, 4), (1, 4))), (1, GREATEST))
        self.check_not_sure((4, 1, ((0, 3), (0, 3))), (1, GREATEST))


class Interface(unittest.TestCase):
    def test_the_names_of_the_arguments(self):
        awaited = {"urn_weight": ["N", "T", "n", "k"], "count_rule": ["N", "n", "stretches"],
                   "urn_cover": ["rule", "T"], "urn_least": ["rule"], "urn_tails": ["N", "n", "share"],
                   "urn_tight": ["rule", "share"]}
        for name, parameters in awaited.items():
            with self.subTest(name):
                self.assertEqual(list(inspect.signature(getattr(urns, name)).parameters), parameters)


if __name__ == "__main__":
    unittest.main()
