import inspect
import unittest
from fractions import Fraction
from functools import lru_cache

from surestretch import covers
from surestretch.covers import least, sure
from surestretch.ratios import is_share
from surestretch.rules import cover, rule_of
from surestretch.trials import weight
from test_ratios import GREATEST, SIXTY, Checks, as_told
from test_rules import (ALL, HALF, NEAR, ONE, RULES, SINGLE, WHOLE, ZERO, cover_by_formula, edge_values,
                        outcomes_that_hold, places, rule_of_ends, rules_of_steps)
from test_trials import weight_by_formula

# A rule that is everywhere sure but just below 1, where it falls short by the least that there can be.
HAIR = rule_of(12, [(ZERO, (SIXTY - 1, SIXTY))] + [WHOLE] * 12)
CROWD = rule_of_ends(12, [Fraction(SIXTY + k, GREATEST) for k in range(26)])


@lru_cache(maxsize=None)
def least_by_formula(rule):
    """The least sum, and the first place and side with it, of all pieces gone through in order."""
    found = None
    values = edge_values(rule)
    for a, b in zip(values, values[1:]):
        outcomes = outcomes_that_hold(rule, (a + b) / 2)
        for at, side in ((a, "above"), (b, "below")):
            total = sum((weight_by_formula(rule[0], k, as_told(at)) for k in outcomes), Fraction(0))
            if found is None or total < found[0]:
                found = (total, at, side)
    return (as_told(found[0]), as_told(found[1]), found[2])


def least_value(rule):
    return Fraction(*least_by_formula(rule)[0])


def far_end(rule, at, side):
    """The other end of the piece beside at."""
    values = edge_values(rule)
    return values[values.index(at) + (1 if side == "above" else -1)]


class Least(unittest.TestCase):
    def test_some_by_hand(self):
        halves = rule_of(2, [(ZERO, HALF), ((1, 4), (3, 4)), (HALF, ONE)])
        # 9/16 comes below 1/4 and once more above 3/4: the first place is told.
        self.assertEqual(least(halves), ((9, 16), (1, 4), "below"))
        self.assertEqual(least(rule_of(1, [(ZERO, HALF), (HALF, ONE)])), ((1, 2), HALF, "below"))
        self.assertEqual(least(rule_of(1, [(ZERO, (1, 3)), ((1, 3), ONE)])), ((1, 3), (1, 3), "above"))
        self.assertEqual(least(rule_of(1, [(ZERO, HALF), (ZERO, ONE)])), ((1, 2), HALF, "above"))
        self.assertEqual(least(rule_of(1, [(ZERO, ONE), (HALF, ONE)])), ((1, 2), HALF, "below"))
        self.assertEqual(least(rule_of(1, [(ZERO, (1, 3)), ((2, 3), ONE)])), (ZERO, (1, 3), "above"))
        self.assertEqual(least(rule_of(1, [(ZERO, ZERO), (ZERO, ONE)])), (ZERO, ZERO, "above"))

    def test_where_all_hold_all(self):
        for rule in ALL:
            self.assertEqual(least(rule), (ONE, ZERO, "above"))

    def test_stretches_of_one_share_each(self):
        for rule in SINGLE:
            with self.subTest(rule):
                self.assertEqual(least(rule), (ZERO, ZERO, "above"))

    def test_the_first_place_and_its_side(self):
        for rule in RULES + [HAIR, CROWD]:
            with self.subTest(rule):
                told = least(rule)
                self.assertEqual(told, least_by_formula(rule))
                self.assertEqual([type(part) for part in told], [tuple, tuple, str])

    def test_all_small_ones(self):
        for rule in rules_of_steps(1, 4) + rules_of_steps(2, 3):
            with self.subTest(rule):
                self.assertEqual(least(rule), least_by_formula(rule))

    def test_nowhere_is_the_cover_less(self):
        for rule in RULES + [HAIR, CROWD]:
            lowest = Fraction(*least(rule)[0])
            for p in places(rule):
                with self.subTest(rule=rule, p=p):
                    self.assertGreaterEqual(cover_by_formula(rule, p), lowest)

    def test_beside_the_place_the_cover_comes_near_it(self):
        for rule in RULES + [HAIR, CROWD]:
            told = least(rule)
            at = Fraction(*told[1])
            apart = far_end(rule, at, told[2]) - at
            for part in (2, 1000, 10 ** 12):
                p = at + apart / part
                with self.subTest(rule=rule, p=p):
                    more = Fraction(*cover(rule, as_told(p))) - Fraction(*told[0])
                    self.assertTrue(0 <= more <= rule[0] * abs(apart) / part)

    def test_asked_again_behind_another_rule_it_tells_the_same(self):
        first = [least(rule) for rule in RULES]
        self.assertEqual([least(rule) for rule in reversed(RULES)], first[::-1])

    def test_the_rule_is_not_changed(self):
        rule = rule_of(1, [(ZERO, HALF), (HALF, ONE)])
        least(rule)
        sure(rule, HALF)
        sure(rule, ONE)
        self.assertEqual(rule, (1, ((ZERO, HALF), (HALF, ONE))))


class Sure(Checks):
    def check_told(self, rule, share):
        lowest = least_value(rule)
        told = sure(rule, share)
        self.assertIs(type(told), tuple)
        if lowest >= Fraction(*share):
            self.assertEqual(told, ("sure", as_told(lowest)))
        else:
            self.assertEqual((len(told), told[0]), (3, "not"))
            self.assertIs(is_share(told[1]), True)
            found = cover_by_formula(rule, Fraction(*told[1]))
            self.check_fraction(told[2], found)
            self.assertLess(found, Fraction(*share))
            # Of numbers of more than four thousand figures nothing is promised: none such is told.
            self.assertLess(max(told[1][1], told[2][1]), 10 ** 4000)
        return told

    def check_rule(self, rule, shares):
        for share in shares:
            with self.subTest(rule=rule, share=share):
                self.check_told(rule, as_told(Fraction(share)))

    def test_some_by_hand(self):
        rule = rule_of(2, [(ZERO, HALF), ((1, 4), (3, 4)), (HALF, ONE)])
        for share in (ZERO, (1, 3), (9, 16)):
            self.assertEqual(sure(rule, share), ("sure", (9, 16)))
        for share in (as_told(Fraction(9, 16) + Fraction(1, SIXTY)), (3, 5), (9, 10), ONE):
            self.assertEqual(self.check_told(rule, share)[0], "not")

    def test_the_share_0_and_all_that_hold_all(self):
        for rule in RULES:
            self.assertEqual(sure(rule, ZERO)[0], "sure")
        for rule in ALL:
            self.assertEqual(sure(rule, ONE), ("sure", ONE))

    def test_stretches_of_one_share_each(self):
        for rule in SINGLE:
            self.check_rule(rule, (0, Fraction(1, GREATEST), Fraction(1, 2), 1))

    def test_all_small_ones(self):
        for rule in rules_of_steps(1, 3) + rules_of_steps(2, 2):
            self.check_rule(rule, [Fraction(k, 12) for k in range(13)])

    def test_shares_of_all_sizes(self):
        for rule in RULES + [HAIR, CROWD]:
            self.check_rule(rule, (Fraction(1, GREATEST), Fraction(1, 20), Fraction(1, 2), Fraction(19, 20),
                                   Fraction(GREATEST - 1, GREATEST), 1))

    def test_just_the_least_cover_and_just_more(self):
        for rule in RULES + [HAIR, CROWD, NEAR]:
            lowest = least_value(rule)
            with self.subTest(rule):
                self.assertEqual(sure(rule, as_told(lowest)), ("sure", as_told(lowest)))
            # The next share of a bottom of few and of sixty figures.
            more = [Fraction(int(lowest * bottom) + 1, bottom) for bottom in (100, 10 ** 20, SIXTY)]
            self.check_rule(rule, [share for share in more if share <= 1])

    def test_a_hair_short_of_1(self):
        told = self.check_told(HAIR, ONE)
        self.assertEqual(told[0], "not")
        self.assertEqual(self.check_told(HAIR, (GREATEST - 1, GREATEST))[0], "sure")

    def test_where_the_cover_is_less_on_one_side_alone(self):
        for n in (1, 2, 6, 12):
            for at in (Fraction(1, 2), Fraction(1, 3), Fraction(SIXTY, GREATEST)):
                above = rule_of(n, [(ZERO, as_told(at))] + [WHOLE] * n)
                below = rule_of(n, [WHOLE] * n + [(as_told(at), ONE)])
                # At the place itself both hold all, so a share beside it is due.
                for rule, side in ((above, "above"), (below, "below")):
                    self.assertEqual(least(rule)[1:], (as_told(at), side))
                    self.assertEqual(cover(rule, as_told(at)), ONE)
                    told = self.check_told(rule, ONE)
                    self.assertEqual(told[0], "not")
                    self.assertNotEqual(told[1], as_told(at))

    def test_at_0_and_1_held_by_none_but_the_end_itself(self):
        for n in (1, 2, 12):
            low = rule_of(n, [(ZERO, ZERO)] + [WHOLE] * n)
            high = rule_of(n, [WHOLE] * n + [(ONE, ONE)])
            for share in (Fraction(1, GREATEST), Fraction(1, 2), 1):
                self.assertEqual(self.check_told(low, as_told(Fraction(share)))[0], "not")
                self.assertEqual(self.check_told(high, as_told(Fraction(share)))[0], "not")

    def test_what_is_told_may_be_asked_of(self):
        # A share of hundreds of figures, as another function tells it.
        for rule in (RULES[0], HAIR, NEAR, CROWD):
            for share in (weight(12, 12, (1, SIXTY)), weight(12, 0, (1, SIXTY)), cover(NEAR, HALF)):
                with self.subTest(rule=rule, share=share):
                    self.check_told(rule, share)

    def test_ends_of_hundreds_of_figures_as_other_functions_tell_them(self):
        m = 10 ** 700
        lower = (m, 2 * m + 1)
        upper = (m + 1, 2 * m + 3)
        # Between the two, which lie as near as such may, the outcome 2 alone holds all.
        rule = rule_of(4, [(ZERO, lower)] * 2 + [WHOLE] + [(upper, ONE)] * 2)
        self.assertEqual(least(rule), least_by_formula(rule))
        for share in ((1, 3), HALF, (2, 3), ONE):
            with self.subTest(share):
                self.assertEqual(self.check_told(rule, share)[0], "sure" if share == (1, 3) else "not")

    def test_asked_again_it_tells_the_same(self):
        asked = [(rule, share) for rule in RULES[::5] for share in (HALF, (9, 10), ONE)]
        first = [sure(rule, share) for rule, share in asked]
        self.assertEqual([sure(rule, share) for rule, share in reversed(asked)], first[::-1])


class Interface(unittest.TestCase):
    def test_the_names_of_the_arguments(self):
        for name, parameters in (("least", ["rule"]), ("sure", ["rule", "share"])):
            self.assertEqual(list(inspect.signature(getattr(covers, name)).parameters), parameters)


if __name__ == "__main__":
    unittest.main()
