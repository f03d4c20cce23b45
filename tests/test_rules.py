import inspect
import unittest
from fractions import Fraction
from itertools import combinations_with_replacement
from random import Random

from surestretch import rules
from surestretch.errors import NoRule
from surestretch.rules import cover, edges, held, is_within, pieces, rule_of
from test_ratios import GREATEST, NO_WHOLES, SIXTY, Checks, as_told
from test_trials import weight_by_formula

ZERO = (0, 1)
ONE = (1, 1)
HALF = (1, 2)
WHOLE = (ZERO, ONE)


def rules_of_steps(n, m):
    """All rules of n trials whose ends are steps of the measure m."""
    rows = list(combinations_with_replacement([as_told(Fraction(k, m)) for k in range(m + 1)], n + 1))
    rows.sort(key=lambda row: [Fraction(*share) for share in row])
    return [rule_of(n, list(zip(lows, highs))) for lows in rows for highs in rows
            if all(Fraction(*low) <= Fraction(*high) for low, high in zip(lows, highs))]


def rule_of_ends(n, values):
    """A rule of some 2 * (n + 1) values: the k-th low is the k-th of the first half, risen, and so the highs."""
    lows = sorted(values[:n + 1])
    highs = sorted(values[n + 1:])
    return rule_of(n, [(as_told(min(low, high)), as_told(max(low, high))) for low, high in zip(lows, highs)])


def scattered_rules():
    source = Random(5)
    told = []
    for n in range(1, 13):
        for bottom in (4, 12, 1000, SIXTY, GREATEST):
            for spread in (0, 1):
                values = []
                for place in range(2 * (n + 1)):
                    value = Fraction(source.randrange(bottom + 1), bottom)
                    # Spread, lows lie in the lower half and highs in the upper one: there some outcomes hold all.
                    values.append(value / 2 + Fraction(place // (n + 1), 2) if spread else value)
                values = [value.limit_denominator(GREATEST) for value in values]
                told.append(rule_of_ends(n, values))
    return told


def tailed_rules():
    """Rules as one would tell them: each outcome's stretch lies around k / n."""
    told = []
    for n in range(1, 13):
        for wide in (Fraction(1, 5), Fraction(2, 5), Fraction(1, 3) + Fraction(1, 10 ** 57)):
            told.append(rule_of(n, [(as_told(max(Fraction(k, n) - wide, Fraction(0))),
                                     as_told(min(Fraction(k, n) + wide, Fraction(1)))) for k in range(n + 1)]))
    return told


CLOSE = [as_told(Fraction(SIXTY + k, GREATEST)) for k in (-1, 0, 1)]
NEAR = rule_of(2, [(ZERO, CLOSE[0]), (CLOSE[1], CLOSE[2]), (CLOSE[1], ONE)])
SINGLE = [rule_of(n, [(share, share)] * (n + 1)) for n in (1, 2, 12) for share in (ZERO, HALF, (1, GREATEST), ONE)]
SINGLE += [rule_of(4, [(as_told(Fraction(k, 4)),) * 2 for k in range(5)])]
ALL = [rule_of(n, [WHOLE] * (n + 1)) for n in range(1, 13)]
SMALL = rules_of_steps(1, 3) + rules_of_steps(2, 2)
RULES = SMALL[::2] + scattered_rules() + tailed_rules() + SINGLE + ALL + [NEAR]


def outcomes_that_hold(rule, p):
    return [k for k, (low, high) in enumerate(rule[1]) if Fraction(*low) <= p <= Fraction(*high)]


def run_of(outcomes):
    return (outcomes[0], outcomes[-1]) if outcomes else None


def cover_by_formula(rule, p):
    return sum((weight_by_formula(rule[0], k, as_told(p)) for k in outcomes_that_hold(rule, p)), Fraction(0))


def edge_values(rule):
    return sorted({Fraction(0), Fraction(1)} | {Fraction(*end) for stretch in rule[1] for end in stretch})


def places(rule):
    """All edges, and three shares within each piece."""
    values = edge_values(rule)
    told = list(values)
    for a, b in zip(values, values[1:]):
        told += [a + (b - a) / 1000, (a + b) / 2, b - (b - a) / 1000]
    return told


class Made(unittest.TestCase):
    PAIRS = [(ZERO, HALF), ((1, 4), (3, 4)), (HALF, ONE)]
    AWAITED = (2, ((ZERO, HALF), ((1, 4), (3, 4)), (HALF, ONE)))

    def check_kinds(self, rule):
        self.assertIs(type(rule), tuple)
        self.assertEqual([type(part) for part in rule], [int, tuple])
        for stretch in rule[1]:
            self.assertIs(type(stretch), tuple)
            self.assertEqual([type(end) for end in stretch], [tuple, tuple])

    def test_of_lists_and_of_tuples(self):
        lists = [list(pair) for pair in self.PAIRS]
        for stretches in (self.PAIRS, tuple(self.PAIRS), lists, tuple(lists), [lists[0], self.PAIRS[1], lists[2]]):
            with self.subTest(stretches):
                told = rule_of(2, stretches)
                self.assertEqual(told, self.AWAITED)
                self.check_kinds(told)

    def test_every_count_of_trials(self):
        for n in range(1, 13):
            with self.subTest(n):
                self.assertEqual(rule_of(n, [WHOLE] * (n + 1)), (n, (WHOLE,) * (n + 1)))

    def test_ends_alike_and_ends_of_sixty_figures(self):
        long = ((1, GREATEST), (GREATEST - 1, GREATEST))
        for pairs in ([(HALF, HALF)] * 2, [(ZERO, ZERO)] * 2, [(ONE, ONE)] * 2, [(ZERO, ZERO), (ONE, ONE)], [long] * 2,
                      [((1, GREATEST), (1, GREATEST)), ((1, GREATEST - 1), (1, GREATEST - 1))]):
            with self.subTest(pairs):
                self.assertEqual(rule_of(1, pairs), (1, tuple(pairs)))

    def test_a_rule_may_be_made_of_a_rule(self):
        for rule in RULES:
            self.assertEqual(rule_of(rule[0], rule[1]), rule)

    def test_what_was_handed_in_is_kept_from_and_by_the_rule(self):
        stretches = [[ZERO, HALF], [HALF, ONE]]
        told = rule_of(1, stretches)
        self.assertEqual(stretches, [[ZERO, HALF], [HALF, ONE]])
        stretches[0][1] = ONE
        stretches[1].append(ONE)
        stretches.append(None)
        self.assertEqual(told, (1, ((ZERO, HALF), (HALF, ONE))))

    def test_what_is_told_is_a_rule_just_where_all_holds(self):
        shares = [as_told(Fraction(k, 2)) for k in range(3)]
        pairs = [(low, high) for low in shares for high in shares]
        made = 0
        for first in pairs:
            for second in pairs:
                values = [[Fraction(*end) for end in pair] for pair in (first, second)]
                awaited = (values[0][0] <= values[0][1] and values[1][0] <= values[1][1]
                           and values[0][0] <= values[1][0] and values[0][1] <= values[1][1])
                with self.subTest(first=first, second=second):
                    if awaited:
                        made += 1
                        self.assertEqual(rule_of(1, [first, second]), (1, (first, second)))
                    else:
                        self.assertRaises(NoRule, rule_of, 1, [first, second])
        self.assertEqual(made, len(rules_of_steps(1, 2)))


class Refused(unittest.TestCase):
    GOOD = [(ZERO, HALF), ((1, 4), (3, 4)), (HALF, ONE)]

    def check_refused(self, n, stretches):
        with self.subTest(n=repr(n), stretches=repr(stretches)), self.assertRaises(NoRule):
            rule_of(n, stretches)

    def test_an_n_that_is_none(self):
        for n in NO_WHOLES + (0, -1, 13, GREATEST, -GREATEST, 1, 3, 12, (2, 1), [2]):
            self.check_refused(n, self.GOOD)
            self.check_refused(n, tuple(self.GOOD))

    def test_an_n_out_of_bounds_with_as_many_stretches(self):
        for n in (0, -1, 13, 14):
            self.check_refused(n, [WHOLE] * (n + 1))
        # True stands for 1 elsewhere: two stretches would fit it, and one would fit False.
        self.check_refused(True, [WHOLE] * 2)
        self.check_refused(False, [WHOLE])
        self.check_refused(1.0, [WHOLE] * 2)

    def test_a_stretch_that_lacks_or_is_one_too_many(self):
        for n in range(1, 13):
            for count in (0, n - 1, n, n + 2, n + 3):
                if count != n + 1:
                    self.check_refused(n, [WHOLE] * count)
                    self.check_refused(n, (WHOLE,) * count)

    def test_a_stretch_that_is_none(self):
        wrong = NO_WHOLES + (0, 1, GREATEST, (ZERO, HALF, ONE), [ZERO, HALF, ONE], (ZERO,), [ZERO], (0, 1), [0, 1], "ab",
                             "01", {ZERO: 1, ONE: 1}, {ZERO, ONE}, {0: ZERO, 1: ONE}, range(2))
        for thing in wrong:
            for place in range(3):
                self.check_refused(2, self.GOOD[:place] + [thing] + self.GOOD[place + 1:])

    def test_an_end_that_is_no_share(self):
        wrong = NO_WHOLES + (0, 1, (-1, 2), (-1, 1), (3, 2), (2, 1), (2, 4), (0, 2), (2, 2), (1, 0), (0, 0), (0, -1),
                             (-1, -2), (True, 1), (False, 1), (1, True), (0, True), (1, 2, 3), (1.0, 2), (1, 2.0),
                             (None, 1), (1, None), ("1", "2"), [0, 1], [1, 2], "1/2", {0: 1}, (GREATEST, GREATEST),
                             (GREATEST, 1), (ZERO, ONE))
        for thing in wrong:
            for n in (1, 2):
                for place in range(n + 1):
                    whole = [WHOLE] * (n + 1)
                    self.check_refused(n, whole[:place] + [(thing, ONE)] + whole[place + 1:])
                    self.check_refused(n, whole[:place] + [[ZERO, thing]] + whole[place + 1:])
            self.check_refused(1, [(thing, thing)] * 2)

    def test_a_low_above_its_high(self):
        near = ((1, GREATEST), (1, GREATEST - 1))
        for low, high in ((ONE, ZERO), (HALF, (1, 3)), ((2, 3), HALF), (near[1], near[0])):
            self.check_refused(1, [(low, high)] * 2)
            self.check_refused(1, [(ZERO, high), (low, high)])
            self.check_refused(1, [(low, high), (low, ONE)])

    def test_a_low_or_a_high_less_than_that_ahead(self):
        self.check_refused(1, [(HALF, ONE), ((1, 3), ONE)])
        self.check_refused(1, [(ZERO, ONE), (ZERO, HALF)])
        self.check_refused(1, [((1, GREATEST - 1), ONE), ((1, GREATEST), ONE)])
        self.check_refused(1, [(ZERO, (1, GREATEST - 1)), (ZERO, (1, GREATEST))])
        for place in range(12):
            lows = [ZERO] * place + [HALF] + [(1, 3)] + [HALF] * (11 - place)
            self.check_refused(12, [(low, ONE) for low in lows])
            self.check_refused(12, [(ZERO, high) for high in lows])

    def test_stretches_that_are_none(self):
        for stretches in NO_WHOLES + (0, 1, GREATEST, "ab", "[]", {0: WHOLE, 1: WHOLE}, {WHOLE: 0, (ONE, ONE): 0},
                                      {WHOLE, (ONE, ONE)}, range(2), iter([WHOLE, WHOLE]), zip([ZERO] * 2, [ONE] * 2)):
            self.check_refused(1, stretches)

    def test_a_list_within_itself(self):
        ring = []
        ring.extend([ring, ring])
        self.check_refused(1, ring)
        self.check_refused(ring, [WHOLE] * 2)

    def test_what_is_refused_is_not_changed(self):
        stretches = [[ZERO, HALF], [ZERO, (1, 3)]]
        self.check_refused(1, stretches)
        self.assertEqual(stretches, [[ZERO, HALF], [ZERO, (1, 3)]])


class Held(Checks):
    def test_some_by_hand(self):
        rule = rule_of(2, [(ZERO, (1, 3)), ((1, 4), (1, 3)), (HALF, (3, 4))])
        for p, run, awaited in ((ZERO, (0, 0), ONE), ((1, 5), (0, 0), (16, 25)), ((1, 4), (0, 1), (15, 16)),
                                ((2, 7), (0, 1), (45, 49)), ((1, 3), (0, 1), (8, 9)), ((2, 5), None, ZERO),
                                (HALF, (2, 2), (1, 4)), ((2, 3), (2, 2), (4, 9)), ((3, 4), (2, 2), (9, 16)),
                                ((4, 5), None, ZERO), (ONE, None, ZERO)):
            with self.subTest(p):
                self.assertEqual(held(rule, p), run)
                self.assertEqual(cover(rule, p), awaited)

    def test_at_0_and_at_1(self):
        inner = rule_of(1, [((1, 4), (3, 4))] * 2)
        for p in (ZERO, ONE):
            self.assertIsNone(held(inner, p))
            self.assertEqual(cover(inner, p), ZERO)
        apart = rule_of(1, [(ZERO, ZERO), (ONE, ONE)])
        self.assertEqual((held(apart, ZERO), held(apart, ONE)), ((0, 0), (1, 1)))
        self.assertEqual((cover(apart, ZERO), cover(apart, ONE), cover(apart, HALF)), (ONE, ONE, ZERO))
        swapped = rule_of(1, [(ONE, ONE)] * 2)
        self.assertEqual((held(swapped, ONE), cover(swapped, ONE)), ((0, 1), ONE))
        self.assertEqual((held(swapped, ZERO), cover(swapped, ZERO)), (None, ZERO))

    def test_at_edges_and_between_them(self):
        for rule in RULES:
            for p in places(rule):
                with self.subTest(rule=rule, p=p):
                    told = held(rule, as_told(p))
                    self.assertEqual(told, run_of(outcomes_that_hold(rule, p)))
                    self.assertIn(type(told), (tuple, type(None)))

    def test_the_cover_at_edges_and_between_them(self):
        for rule in RULES[::3] + SINGLE + [NEAR]:
            for p in places(rule):
                with self.subTest(rule=rule, p=p):
                    self.check_fraction(cover(rule, as_told(p)), cover_by_formula(rule, p))

    def test_the_outcomes_that_hold_a_share_are_a_run(self):
        for rule in RULES:
            for p in places(rule):
                outcomes = outcomes_that_hold(rule, p)
                self.assertEqual(outcomes, list(range(outcomes[0], outcomes[-1] + 1)) if outcomes else [])


class Edges(unittest.TestCase):
    def test_some_by_hand(self):
        rule = rule_of(2, [(ZERO, HALF), ((1, 10), (3, 4)), ((1, 3), (3, 4))])
        self.assertEqual(edges(rule), [ZERO, (1, 10), (1, 3), HALF, (3, 4), ONE])
        self.assertEqual(edges(rule_of(1, [WHOLE] * 2)), [ZERO, ONE])
        self.assertEqual(edges(rule_of(12, [(HALF, HALF)] * 13)), [ZERO, HALF, ONE])
        self.assertEqual(edges(NEAR), [ZERO] + CLOSE + [ONE])

    def test_each_once_the_lesser_ones_first(self):
        for rule in RULES:
            with self.subTest(rule):
                told = edges(rule)
                self.assertIs(type(told), list)
                self.assertEqual(told, [as_told(value) for value in edge_values(rule)])

    def test_as_many_as_there_can_be(self):
        for bottom in (28, GREATEST):
            ends = [Fraction(k, bottom) for k in range(1, 27)]
            rule = rule_of_ends(12, ends)
            self.assertEqual(edges(rule), [ZERO] + [as_told(end) for end in ends] + [ONE])
            self.assertEqual(len(pieces(rule)), 27)


class Pieces(unittest.TestCase):
    def test_some_by_hand(self):
        rule = rule_of(2, [(ZERO, (1, 3)), ((1, 4), (1, 3)), (HALF, (3, 4))])
        self.assertEqual(pieces(rule), [(ZERO, (1, 4), (0, 0)), ((1, 4), (1, 3), (0, 1)), ((1, 3), HALF, None),
                                        (HALF, (3, 4), (2, 2)), ((3, 4), ONE, None)])
        self.assertEqual(pieces(rule_of(12, [WHOLE] * 13)), [(ZERO, ONE, (0, 12))])
        self.assertEqual(pieces(rule_of(1, [(ZERO, HALF), (HALF, ONE)])), [(ZERO, HALF, (0, 0)), (HALF, ONE, (1, 1))])

    def test_stretches_of_one_share_hold_no_piece(self):
        for rule in SINGLE:
            with self.subTest(rule):
                self.assertEqual({run for a, b, run in pieces(rule)}, {None})

    def test_neighbouring_edges_with_the_run_between_them(self):
        for rule in RULES:
            with self.subTest(rule):
                told = pieces(rule)
                values = edge_values(rule)
                self.assertIs(type(told), list)
                self.assertEqual([(a, b) for a, b, run in told],
                                 [(as_told(a), as_told(b)) for a, b in zip(values, values[1:])])
                for piece, a, b in zip(told, values, values[1:]):
                    self.assertIs(type(piece), tuple)
                    for p in (a + (b - a) / 1000, (a + b) / 2, b - (b - a) / 1000):
                        self.assertEqual(piece[2], run_of(outcomes_that_hold(rule, p)))


class ListsTold(unittest.TestCase):
    def test_they_are_new_and_the_askers_own(self):
        for ask in (edges, pieces):
            for rule in (RULES[0], RULES[-1], SINGLE[0], ALL[3]):
                with self.subTest(ask=ask, rule=rule):
                    first = ask(rule)
                    kept = list(first)
                    first.reverse()
                    first.append(None)
                    second = ask(rule)
                    self.assertEqual(second, kept)
                    second.clear()
                    self.assertEqual(ask(rule), kept)
                    third = ask(rule)
                    edges(NEAR)
                    pieces(NEAR)
                    self.assertEqual(third, kept)

    def test_a_rule_asked_is_not_changed(self):
        rule = rule_of(2, [(ZERO, HALF), ((1, 4), (3, 4)), (HALF, ONE)])
        for ask in (edges, pieces, lambda one: held(one, HALF), lambda one: cover(one, HALF),
                    lambda one: is_within(one, one)):
            first = ask(rule)
            ask(NEAR)
            self.assertEqual(ask(rule), first)
            self.assertEqual(rule, (2, ((ZERO, HALF), ((1, 4), (3, 4)), (HALF, ONE))))


class Within(unittest.TestCase):
    def test_a_rule_within_itself_and_within_all(self):
        for rule in RULES:
            with self.subTest(rule):
                self.assertIs(is_within(rule, rule), True)
                self.assertIs(is_within(rule, rule_of(rule[0], [WHOLE] * (rule[0] + 1))), True)

    def test_one_end_moved(self):
        base = [(ZERO, HALF), ((1, 4), (3, 4)), (HALF, ONE)]
        narrower = [[(ZERO, (1, 3))] + base[1:], [((1, GREATEST), HALF)] + base[1:],
                    [base[0], ((1, 3), (3, 4)), base[2]], [base[0], ((1, 4), (2, 3)), base[2]],
                    base[:2] + [((2, 3), ONE)], base[:2] + [(HALF, (GREATEST - 1, GREATEST))]]
        for stretches in narrower:
            with self.subTest(stretches):
                self.assertIs(is_within(rule_of(2, stretches), rule_of(2, base)), True)
                self.assertIs(is_within(rule_of(2, base), rule_of(2, stretches)), False)

    def test_neither_within_the_other(self):
        left = rule_of(1, [(ZERO, HALF)] * 2)
        right = rule_of(1, [((1, 4), ONE)] * 2)
        self.assertIs(is_within(left, right), False)
        self.assertIs(is_within(right, left), False)

    def test_all_pairs_of_small_ones(self):
        for some in (rules_of_steps(1, 3), rules_of_steps(2, 2)):
            for one in some:
                for other in some:
                    awaited = all(Fraction(*b[0]) <= Fraction(*a[0]) and Fraction(*a[1]) <= Fraction(*b[1])
                                  for a, b in zip(one[1], other[1]))
                    self.assertIs(is_within(one, other), awaited)


class Interface(unittest.TestCase):
    def test_the_names_of_the_arguments(self):
        awaited = {"rule_of": ["n", "stretches"], "held": ["rule", "p"], "cover": ["rule", "p"], "edges": ["rule"],
                   "pieces": ["rule"], "is_within": ["one", "other"]}
        for name, parameters in awaited.items():
            with self.subTest(name):
                self.assertEqual(list(inspect.signature(getattr(rules, name)).parameters), parameters)


if __name__ == "__main__":
    unittest.main()
