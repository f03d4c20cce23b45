import inspect
import unittest
from fractions import Fraction
from functools import lru_cache
from itertools import accumulate
from random import Random

from surestretch import makers
from surestretch.covers import least, sure
from surestretch.errors import NotSure, TooMuch
from surestretch.makers import moved, span, tails, tight
from surestretch.ratios import is_share
from surestretch.rules import cover, is_within, rule_of
from surestretch.trials import weight
from test_covers import HAIR, least_value
from test_ratios import GREATEST, ODD_SIXTY, SIXTY, Checks, as_told
from test_rules import ALL, HALF, NEAR, ONE, RULES, SINGLE, WHOLE, ZERO, cover_by_formula, rule_of_ends, rules_of_steps
from test_trials import weight_by_formula

# A tiny bit less than 1, and one above 0: such as may be handed in with sixty figures.
NEARLY = (GREATEST - 1, GREATEST)
HARDLY = (1, GREATEST)
ASKED = [(1, 20), (1, 3), HALF, (9, 10), (19, 20), (99, 100), ONE, HARDLY, NEARLY, (SIXTY, GREATEST),
         as_told(Fraction(ODD_SIXTY, GREATEST))]
KINDS = ("low", "high")


@lru_cache(maxsize=None)
def sums_up_to(n, p):
    """The sum from 0 to k, for each outcome k."""
    return tuple(accumulate(weight_by_formula(n, k, as_told(p)) for k in range(n + 1)))


@lru_cache(maxsize=None)
def sums_from(n, p):
    """The sum from k to n, for each outcome k."""
    return tuple(accumulate(weight_by_formula(n, k, as_told(p)) for k in range(n, -1, -1)))[::-1]


def tails_by_formula(n, share, m):
    t = (1 - Fraction(*share)) / 2
    steps = [Fraction(k, m) for k in range(m + 1)]
    told = []
    for k in range(n + 1):
        highs = [step for step in steps if sums_up_to(n, step)[k] <= t]
        lows = [step for step in steps if sums_from(n, step)[k] <= t]
        told.append((as_told(max(lows, default=Fraction(0))), as_told(min(highs, default=Fraction(1)))))
    return (n, tuple(told))


def values_of(rule):
    return [[Fraction(*end) for end in stretch] for stretch in rule[1]]


def is_rule(values):
    return (all(0 <= low <= high <= 1 for low, high in values)
            and all(one[0] <= other[0] and one[1] <= other[1] for one, other in zip(values, values[1:])))


def moved_by_formula(rule, k, end, m):
    values = values_of(rule)
    if end == "low":
        values[k][0] += Fraction(1, m)
    else:
        values[k][1] -= Fraction(1, m)
    if not is_rule(values):
        return None
    return (rule[0], tuple((as_told(low), as_told(high)) for low, high in values))


def tight_by_formula(rule, share, m):
    n = rule[0]
    for end, outcomes in (("high", range(n + 1)), ("low", range(n, -1, -1))):
        for k in outcomes:
            while True:
                other = moved_by_formula(rule, k, end, m)
                if other is None or least_value(other) < Fraction(*share):
                    break
                rule = other
    return rule


def with_wins_and_losses_exchanged(rule):
    turned = [(as_told(1 - high), as_told(1 - low)) for low, high in reversed(values_of(rule))]
    return (rule[0], tuple(turned))


class Tails(unittest.TestCase):
    def check_kinds(self, rule, n):
        self.assertIs(type(rule), tuple)
        self.assertEqual([type(part) for part in rule], [int, tuple])
        for stretch in rule[1]:
            self.assertIs(type(stretch), tuple)
            self.assertTrue(all(is_share(end) for end in stretch))
        self.assertEqual(rule_of(n, rule[1]), rule)

    def check_tails(self, n, share, m):
        with self.subTest(n=n, share=share, m=m):
            told = tails(n, share, m)
            self.assertEqual(told, tails_by_formula(n, share, m))
            self.check_kinds(told, n)
            self.assertEqual(with_wins_and_losses_exchanged(told), told)
            return told

    def test_some_by_hand(self):
        # Half of what is left is 1/4, and at the step 3/4 the sum is just that much.
        self.assertEqual(tails(1, HALF, 4), (1, ((ZERO, (3, 4)), ((1, 4), ONE))))
        self.assertEqual(tails(1, (51, 100), 4), (1, (WHOLE, WHOLE)))
        self.assertEqual(tails(1, (49, 100), 4), (1, ((ZERO, (3, 4)), ((1, 4), ONE))))
        self.assertEqual(tails(2, HALF, 2), (2, ((ZERO, HALF), WHOLE, (HALF, ONE))))
        self.assertEqual(tails(2, HALF, 10), (2, ((ZERO, HALF), ((1, 10), (9, 10)), (HALF, ONE))))
        # 27/64 may be left: the sum from 0 to 0 at 1/4, while that from 1 to 3 is 37/64 there.
        self.assertEqual(tails(3, (5, 32), 4), (3, ((ZERO, (1, 4)), (ZERO, (3, 4)), ((1, 4), ONE), ((3, 4), ONE))))

    def test_every_count_of_trials_and_every_measure(self):
        for n in range(1, 13):
            for m in range(1, 61):
                self.check_tails(n, ASKED[(n * 7 + m) % len(ASKED)], m)

    def test_shares_of_all_sizes(self):
        for n in (1, 2, 5, 9, 12):
            for m in (1, 2, 7, 20, 60):
                for share in ASKED:
                    self.check_tails(n, share, m)

    def test_at_a_share_of_1_all_hold_all(self):
        for n in range(1, 13):
            for m in (1, 2, 17, 60):
                self.assertEqual(tails(n, ONE, m), (n, (WHOLE,) * (n + 1)))

    def test_a_measure_of_1(self):
        for n in range(1, 13):
            for share in ASKED:
                self.assertEqual(tails(n, share, 1), (n, (WHOLE,) * (n + 1)))

    def test_where_a_sum_is_just_what_it_may_be(self):
        for n in (1, 2, 4, 7, 12):
            for m in (2, 5, 8, 60):
                for j in range(1, m):
                    for k in range(n):
                        t = sums_up_to(n, Fraction(j, m))[k]
                        if t < Fraction(1, 2) and (j + 2 * k) % 5 == 0:
                            self.check_just(n, k, m, Fraction(j, m), t)

    def check_just(self, n, k, m, step, t):
        with self.subTest(n=n, k=k, m=m, step=step):
            told = tails(n, as_told(1 - 2 * t), m)
            self.assertEqual(told[1][k][1], as_told(step))
            self.assertEqual(told[1][n - k][0], as_told(1 - step))
            # A hair less may be left, and it is the next step.
            told = tails(n, as_told(1 - 2 * t + Fraction(1, GREATEST)), m)
            self.assertEqual(told[1][k][1], as_told(step + Fraction(1, m)))
            self.assertEqual(told[1][n - k][0], as_told(1 - step - Fraction(1, m)))

    def test_it_is_sure_to_the_share(self):
        for n in range(1, 13):
            for m in (1, 2, 3, 11, 20, 47, 60):
                for share in ASKED[n % 2::2]:
                    with self.subTest(n=n, m=m, share=share):
                        rule = tails(n, share, m)
                        self.assertGreaterEqual(least_value(rule), Fraction(*share))
                        self.assertEqual(sure(rule, share)[0], "sure")

    def test_a_share_of_hundreds_of_figures_as_another_function_tells_it(self):
        for share in (cover(NEAR, (1, 3)), weight(12, 0, (1, SIXTY)), weight(12, 12, NEARLY)):
            self.check_tails(3, share, 20)

    def test_somewhat_beyond_nothing_is_refused(self):
        self.assertEqual(tails(13, (9, 10), 5), tails_by_formula(13, (9, 10), 5))
        self.assertEqual(tails(3, (9, 10), 64), tails_by_formula(3, (9, 10), 64))
        self.assertEqual(tails(3, ZERO, 12), tails_by_formula(3, ZERO, 12))

    def test_asked_again_it_tells_the_same(self):
        asked = [(n, share, m) for n in (1, 5) for share in ASKED[:4] for m in (3, 20)]
        first = [tails(*one) for one in asked]
        self.assertEqual([tails(*one) for one in reversed(asked)], first[::-1])


class Moved(unittest.TestCase):
    def check_moved(self, rule, m):
        kept = rule_of(rule[0], rule[1])
        for k in range(rule[0] + 1):
            for end in KINDS:
                with self.subTest(rule=rule, k=k, end=end, m=m):
                    told = moved(rule, k, end, m)
                    self.assertEqual(told, moved_by_formula(rule, k, end, m))
                    if told is not None:
                        self.assertEqual(rule_of(told[0], told[1]), told)
                        self.assertTrue(is_within(told, rule))
        self.assertEqual(rule, kept)

    def test_some_by_hand(self):
        rule = (2, ((ZERO, HALF), ((1, 4), (3, 4)), (HALF, ONE)))
        self.assertEqual(moved(rule, 0, "high", 4), (2, ((ZERO, (1, 4)), ((1, 4), (3, 4)), (HALF, ONE))))
        self.assertEqual(moved(rule, 0, "low", 4), (2, (((1, 4), HALF), ((1, 4), (3, 4)), (HALF, ONE))))
        self.assertEqual(moved(rule, 1, "high", 4), (2, ((ZERO, HALF), ((1, 4), HALF), (HALF, ONE))))
        self.assertEqual(moved(rule, 1, "low", 4), (2, ((ZERO, HALF), (HALF, (3, 4)), (HALF, ONE))))
        self.assertEqual(moved(rule, 2, "high", 4), (2, ((ZERO, HALF), ((1, 4), (3, 4)), (HALF, (3, 4)))))
        self.assertEqual(moved(rule, 2, "low", 4), (2, ((ZERO, HALF), ((1, 4), (3, 4)), ((3, 4), ONE))))
        # Out of order with the neighbour's: the high of 1 would lie below that of 0, the low of 0 above that of 1.
        self.assertIsNone(moved(rule, 1, "high", 3))
        self.assertIsNone(moved(rule, 0, "low", 3))
        self.assertIsNone(moved(rule, 0, "high", 1))
        self.assertIsNone(moved(rule, 2, "low", 1))
        self.assertEqual(moved(rule, 2, "low", 2), (2, ((ZERO, HALF), ((1, 4), (3, 4)), (ONE, ONE))))

    def test_beyond_the_other_end_below_0_and_above_1(self):
        single = (1, ((HALF, HALF), (HALF, HALF)))
        for k in (0, 1):
            for end in KINDS:
                for m in (1, 2, 3, 60):
                    self.assertIsNone(moved(single, k, end, m))
        ends = (1, ((ZERO, ZERO), (ONE, ONE)))
        for m in (1, 2, 60):
            self.assertIsNone(moved(ends, 0, "high", m))
            self.assertIsNone(moved(ends, 1, "low", m))
        for m in (1, 2):
            self.assertIsNone(moved((1, ((ZERO, (1, 3)),) * 2), 0, "high", m))
            self.assertIsNone(moved((1, (((2, 3), ONE),) * 2), 1, "low", m))

    def test_just_to_the_other_end_and_to_the_neighbours(self):
        rule = (1, (((1, 6), HALF), (HALF, (5, 6))))
        self.assertEqual(moved(rule, 0, "high", 3), (1, (((1, 6), (1, 6)), (HALF, (5, 6)))))
        self.assertEqual(moved(rule, 0, "low", 3), (1, ((HALF, HALF), (HALF, (5, 6)))))
        self.assertEqual(moved(rule, 1, "high", 3), (1, (((1, 6), HALF), (HALF, HALF))))
        self.assertEqual(moved(rule, 1, "low", 3), (1, (((1, 6), HALF), ((5, 6), (5, 6)))))

    def test_ends_that_are_no_steps(self):
        rule = (1, ((ZERO, (6, 7)), ((1, 7), ONE)))
        self.assertEqual(moved(rule, 0, "high", 3), (1, ((ZERO, (11, 21)), ((1, 7), ONE))))
        self.assertEqual(moved(rule, 1, "low", 14), (1, ((ZERO, (6, 7)), ((3, 14), ONE))))
        self.assertEqual(moved(rule, 1, "low", 3), (1, ((ZERO, (6, 7)), ((10, 21), ONE))))

    def test_every_outcome_and_both_ends(self):
        for number, rule in enumerate(RULES + [HAIR]):
            for m in ((1, 2, 3, 20, 60) if number % 4 == 0 else (4, 37)):
                self.check_moved(rule, m)

    def test_all_small_ones(self):
        for rule in rules_of_steps(1, 3) + rules_of_steps(2, 2):
            for m in (1, 2, 3, 4, 6):
                self.check_moved(rule, m)

    def test_a_measure_somewhat_beyond(self):
        self.check_moved(RULES[-1], 61)
        self.check_moved(ALL[3], 100)


class Tight(unittest.TestCase):
    def check_tight(self, rule, share, m):
        with self.subTest(rule=rule, share=share, m=m):
            kept = rule_of(rule[0], rule[1])
            told = tight(rule, share, m)
            self.assertEqual(rule, kept)
            self.assertEqual(rule_of(told[0], told[1]), told)
            self.assertEqual(told, tight_by_formula(rule, share, m))
            self.assertTrue(all(outer[0] <= inner[0] and inner[1] <= outer[1]
                                for inner, outer in zip(values_of(told), values_of(rule))))
            self.assertGreaterEqual(least_value(told), Fraction(*share))
            self.check_no_end_can_be_moved(told, share, m)
            self.assertEqual(tight(told, share, m), told)
            return told

    def check_no_end_can_be_moved(self, rule, share, m):
        for k in range(rule[0] + 1):
            for end in KINDS:
                other = moved_by_formula(rule, k, end, m)
                if other is not None:
                    self.assertLess(least_value(other), Fraction(*share))

    def test_some_by_hand(self):
        whole = (1, (WHOLE, WHOLE))
        # From 1 the high of 0 may come down to 1/2: above it the outcome 1 alone holds, which is half there.
        self.assertEqual(tight(whole, HALF, 4), (1, ((ZERO, HALF), (HALF, ONE))))
        # The highs come first: 1/3 is enough for the outcome 0, so the outcome 1 is due from there on.
        self.assertEqual(tight(whole, (1, 3), 3), (1, ((ZERO, (1, 3)), ((1, 3), ONE))))
        self.assertEqual(tight(whole, (1, 4), 4), (1, ((ZERO, (1, 4)), ((1, 4), ONE))))
        self.assertEqual(tight(whole, (1, 4), 1), whole)
        self.assertEqual(tight(whole, ONE, 20), whole)

    def test_a_share_of_0_takes_all_away(self):
        for n in range(1, 7):
            for m in (1, 2, 20):
                self.assertEqual(tight(ALL[n - 1], ZERO, m), (n, ((ZERO, ZERO),) * (n + 1)))

    def test_rules_made_by_tails(self):
        for n in range(1, 7):
            for m in (1, 2, 3, 7, 12, 20):
                for share in ASKED[(n + m) % 3::3]:
                    self.check_tight(tails(n, share, m), share, m)

    def test_rules_that_hold_all(self):
        for n in range(1, 7):
            for m in (1, 3, 10, 20):
                for share in ((1, 20), HALF, (9, 10), NEARLY, HARDLY):
                    self.check_tight(ALL[n - 1], share, m)

    def test_ends_that_are_no_steps_of_the_measure(self):
        source = Random(15)
        for n in range(1, 7):
            for bottom in (7, 60, 997, GREATEST):
                for m in (4, 20):
                    # Lows in the lowest part and highs in the topmost one, but for the ends that make it sure.
                    spread = [Fraction(source.randrange(bottom + 1), 4 * bottom) for end in range(2 * n)]
                    values = [Fraction(0)] + spread[:n] + [1 - value for value in spread[n:]] + [Fraction(1)]
                    rule = rule_of_ends(n, values)
                    share = as_told(min(least_value(rule), Fraction(source.randrange(1, 20), 20)))
                    self.check_tight(rule, share, m)

    def test_just_as_sure_as_it_is(self):
        for rule in RULES:
            if rule[0] <= 6:
                self.check_tight(rule, as_told(least_value(rule)), 6)

    def test_all_small_ones(self):
        for rule in rules_of_steps(1, 3) + rules_of_steps(2, 2):
            for share in ((1, 4), (1, 2), (3, 4)):
                if least_value(rule) >= Fraction(*share):
                    self.check_tight(rule, share, 6)

    def test_measures_other_than_that_of_the_tails(self):
        for n in (2, 5, 6):
            for m in (13, 20):
                self.check_tight(tails(n, (4, 5), 60), (4, 5), m)

    def test_asked_again_it_tells_the_same(self):
        asked = [(tails(n, share, 10), share, 10) for n in (1, 4) for share in ASKED[:4]]
        first = [tight(*one) for one in asked]
        self.assertEqual([tight(*one) for one in reversed(asked)], first[::-1])


class NotTight(unittest.TestCase):
    def check_not_sure(self, rule, share, m):
        with self.subTest(rule=rule, share=share, m=m):
            with self.assertRaises(NotSure) as caught:
                tight(rule, share, m)
            at = caught.exception.at
            self.assertIs(is_share(at), True)
            self.assertLess(cover_by_formula(rule, Fraction(*at)), Fraction(*share))
            self.assertEqual(rule_of(rule[0], rule[1]), rule)

    def test_a_rule_that_is_not_sure(self):
        for rule in RULES + [NEAR] + SINGLE:
            if rule[0] <= 6:
                lowest = least_value(rule)
                more = [(lowest + 1) / 2, Fraction(int(lowest * SIXTY) + 1, SIXTY), Fraction(1)]
                for number, share in enumerate(more):
                    if lowest < share <= 1:
                        self.check_not_sure(rule, as_told(share), (1, 7, 20)[number])

    def test_where_the_cover_is_less_beside_an_end_alone(self):
        for n in range(1, 7):
            # At 1/2 itself all hold it: the share told lies beside.
            self.check_not_sure(rule_of(n, [(ZERO, HALF)] + [WHOLE] * n), ONE, 20)
            self.check_not_sure(rule_of(n, [WHOLE] * n + [(HALF, ONE)]), ONE, 20)

    def test_just_what_it_is_sure_to_and_a_hair_more(self):
        for n in range(1, 7):
            rule = tails(n, (4, 5), 9)
            lowest = least_value(rule)
            self.assertEqual(rule_of(*tight(rule, as_told(lowest), 20))[0], n)
            self.check_not_sure(rule, as_told(lowest + Fraction(1, GREATEST)), 20)

    def test_too_many_trials_or_too_fine_a_measure(self):
        for n in range(7, 13):
            for m in (1, 6, 20, 21, 60):
                self.assertRaises(TooMuch, tight, ALL[n - 1], HALF, m)
        for n in range(1, 7):
            for m in (21, 22, 40, 60):
                self.assertRaises(TooMuch, tight, ALL[n - 1], HALF, m)

    def test_too_much_is_told_ahead_of_not_sure(self):
        for n, m in ((7, 20), (12, 1), (7, 21), (6, 21), (1, 60)):
            rule = rule_of(n, [(HALF, HALF)] * (n + 1))
            self.assertRaises(TooMuch, tight, rule, ONE, m)
            self.assertEqual(rule, (n, ((HALF, HALF),) * (n + 1)))

    def test_just_not_too_much(self):
        self.assertEqual(tight(ALL[5], ONE, 20), ALL[5])
        self.check_not_sure(rule_of(6, [(HALF, HALF)] * 7), HALF, 20)


class Span(Checks):
    def test_some_by_hand(self):
        self.assertEqual(span((2, ((ZERO, HALF), ((1, 4), (3, 4)), (HALF, ONE)))), (3, 2))
        self.assertEqual(span((1, ((ZERO, (1, 3)), ((1, 4), ONE)))), (13, 12))
        self.assertEqual(span((1, ((HALF, HALF), (HALF, ONE)))), HALF)

    def test_the_longest_and_the_shortest(self):
        for n in range(1, 13):
            self.assertEqual(span(ALL[n - 1]), (n + 1, 1))
        for rule in SINGLE:
            self.assertEqual(span(rule), ZERO)

    def test_the_sum_of_all_lengths(self):
        for rule in RULES + [HAIR]:
            with self.subTest(rule):
                self.check_fraction(span(rule), sum(high - low for low, high in values_of(rule)))

    def test_a_rule_made_tight_is_no_longer(self):
        for n in range(1, 7):
            rule = tails(n, (9, 10), 20)
            shorter = tight(rule, (9, 10), 20)
            steps = Fraction(*span(rule)) - Fraction(*span(shorter))
            self.assertEqual((steps >= 0, (steps * 20).denominator), (True, 1))

    def test_the_rule_is_not_changed(self):
        rule = (1, ((ZERO, HALF), (HALF, ONE)))
        for ask in (span, lambda one: moved(one, 0, "high", 4), lambda one: tight(one, HALF, 4), least):
            first = ask(rule)
            ask(ALL[2])
            self.assertEqual(ask(rule), first)
            self.assertEqual(rule, (1, ((ZERO, HALF), (HALF, ONE))))


class Interface(unittest.TestCase):
    def test_the_names_of_the_arguments(self):
        awaited = {"tails": ["n", "share", "measure"], "moved": ["rule", "k", "end", "measure"],
                   "tight": ["rule", "share", "measure"], "span": ["rule"]}
        for name, parameters in awaited.items():
            with self.subTest(name):
                self.assertEqual(list(inspect.signature(getattr(makers, name)).parameters), parameters)


if __name__ == "__main__":
    unittest.main()
