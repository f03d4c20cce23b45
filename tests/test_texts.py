import copy
import unittest
from fractions import Fraction

from surestretch.errors import NoPlan, NoRule, NoText
from surestretch.makers import tails
from surestretch.rules import cover, rule_of
from surestretch.spent import spent
from surestretch.texts import read_plan, read_rule, show_fraction, show_plan, show_rule
from test_early import AT_ONCE, FIRST_LOST, LATE, NONE_HIGH, NOT_ONE, PLANS
from test_ratios import AKIN, GREATEST, LARGE, NO_WHOLES, ODD_SIXTY, SIXTY, SMALL
from test_rules import HALF, ONE, RULES, WHOLE, ZERO

RULE = "2: 0 1/2; 1/4 3/4; 1/2 1"
READ_RULE = (2, ((ZERO, HALF), ((1, 4), (3, 4)), (HALF, ONE)))
PLAN = "plan 2: -1 2; 0 1"
READ_PLAN = (2, ((-1, 2), (0, 1)))
NO_TEXTS = tuple(thing for thing in NO_WHOLES if not isinstance(thing, str)) + (
    0, 7, (0, 1), READ_RULE, READ_PLAN, [RULE], (RULE,), {RULE: 1}, [PLAN], PLAN.encode(), RULE.encode())

# Written in the place of a number these are none, whatever is due there.
NO_NUMBERS = ("", "-", "+", "/", "+1", "+0", "-0", "--1", "-+1", "00", "01", "007", "-01", "0x1", "1.0", "1,0", "1e0",
              "1_0", "a", "one", "1-", "1a", "a1", "None", "True", "(1)", "[0]", "*", "=1", ".", "1.", "'1'", "0b1",
              "O", "l", "\t1", "1\t", "1\n", "\n1", "\u0661", "\u00b2", "\uff11", str(10 ** 60), str(-10 ** 60),
              "0" * 60, "0" * 59 + "1", "1" * 61)
# Nor are these in the place of a fraction.
NO_FRACTIONS = NO_NUMBERS + (
    "1/1", "0/1", "0/5", "0/2", "-0/5", "-0/1", "2/4", "-2/4", "6/3", "2/1", "1/0", "0/0", "-1/0", "1/-1", "1/-2",
    "1/+2", "-1/-2", "+1/2", "1/", "/2", "1//2", "1/2/3", "01/2", "1/02", "1/00", "1/2.", "1/a", "1:2", "1\\2",
    f"1/{10 ** 60}", f"{10 ** 60}/7", f"9/{GREATEST}", f"{GREATEST}/{GREATEST}", f"0/{GREATEST}", "1/" + "0" * 60)
# And these are written as they ought to be, but are no shares.
NO_SHARES = ("2", "-1", "3/2", "-1/2", "13", str(GREATEST), str(-GREATEST), f"-1/{GREATEST}", f"{GREATEST}/{SIXTY}",
             f"{GREATEST}/{GREATEST - 1}")


def spoiled(text):
    """What comes of a right text with a blank or a sign too many, lacking, or in the place of another."""
    head, colon, pairs = text.partition(": ")
    first, blank, others = pairs.partition("; ")
    told = ["", " ", ":", ": ", ";", "; ", head, head + ":", head + ": ", head + pairs, pairs, ": " + pairs, " " + text,
            "\n" + text, "(" + text + ")", text[:-1], text[:-2], text.rpartition(" ")[0]]
    told += [text + sign for sign in (" ", "\n", "\t", ".", ";", "; ", ":", ": ", " 1", text, " " + text)]
    told += [head + sign + pairs for sign in (":", ":  ", " : ", " :", " ", "; ", ";", ":\n", ":\t", ":: ", ": : ",
                                              ": ; ")]
    told += [f"{head}: {first}{sign}{others}" for sign in (";", ";  ", " ; ", " ;", " ", ", ", ": ", "\n", ";\n", ";; ",
                                                           "; ; ", ". ")]
    told += [text.replace(" ", sign) for sign in ("", "  ", "\t", "_", "\n", "\u00a0")]
    return told


class Fractions(unittest.TestCase):
    def test_some_by_hand(self):
        for one, awaited in (((0, 1), "0"), ((1, 1), "1"), ((7, 1), "7"), ((-7, 1), "-7"), ((1, 2), "1/2"),
                             ((-1, 2), "-1/2"), ((3, 2), "3/2"), ((10, 11), "10/11"), ((100, 1), "100"),
                             ((1, GREATEST), "1/" + "9" * 60), ((-SIXTY, 1), "-1" + "0" * 59)):
            with self.subTest(one):
                told = show_fraction(one)
                self.assertIs(type(told), str)
                self.assertEqual(told, awaited)

    def test_they_write_what_they_are(self):
        for one in SMALL + LARGE + AKIN:
            with self.subTest(one):
                told = show_fraction(one)
                self.assertEqual(Fraction(told), Fraction(*one))
                self.assertEqual("/" in told, one[1] > 1)

    def test_as_many_figures_as_there_are(self):
        long = (10 ** 3999, 10 ** 3999 + 1)
        self.assertEqual(show_fraction(long), "1" + "0" * 3999 + "/1" + "0" * 3998 + "1")
        self.assertEqual(show_fraction((-(10 ** 3999), 1)), "-1" + "0" * 3999)
        told = cover(RULES[-1], (SIXTY, GREATEST))
        self.assertEqual(Fraction(show_fraction(told)), Fraction(*told))


class Read(unittest.TestCase):
    def test_some_by_hand(self):
        self.assertEqual(read_rule(RULE), READ_RULE)
        self.assertEqual(show_rule(READ_RULE), RULE)
        self.assertEqual(read_rule("1: 0 0; 1 1"), (1, ((ZERO, ZERO), (ONE, ONE))))
        self.assertEqual(read_plan(PLAN), READ_PLAN)
        self.assertEqual(show_plan(READ_PLAN), PLAN)
        self.assertEqual(read_plan("plan 1: -1 0"), (1, ((-1, 0),)))
        self.assertEqual(read_plan("plan 1: 1 2"), (1, ((1, 2),)))
        self.assertEqual(show_plan(AT_ONCE[2]), "plan 3: 0 1; 0 1; 0 1")

    def check_again(self, thing, show, read):
        with self.subTest(thing):
            text = show(thing)
            self.assertIs(type(text), str)
            self.assertTrue(all(" " <= sign <= "~" for sign in text))
            told = read(text)
            self.assertEqual(told, thing)
            self.assertEqual(rule_kinds(told), rule_kinds(thing))
            self.assertEqual(show(told), text)

    def test_rules_shown_are_read_again(self):
        written = [rule for rule in RULES if all(end[1] < 10 ** 60 for pair in rule[1] for end in pair)]
        self.assertGreater(len(written), 100)
        for rule in written + [tails(n, (9, 10), 60) for n in range(1, 13)]:
            self.check_again(rule, show_rule, read_rule)

    def test_plans_shown_are_read_again(self):
        for plan in PLANS + LATE + NOT_ONE + NONE_HIGH + FIRST_LOST + [spent(12, HALF, (1, 20))]:
            self.check_again(plan, show_plan, read_plan)

    def test_rules_as_written(self):
        for rule in RULES:
            ends = [" ".join(str(Fraction(*end)) for end in pair) for pair in rule[1]]
            self.assertEqual(show_rule(rule), str(rule[0]) + ": " + "; ".join(ends))

    def test_plans_as_written(self):
        for plan in PLANS + LATE:
            pairs = [f"{low} {high}" for low, high in plan[1]]
            self.assertEqual(show_plan(plan), f"plan {plan[0]}: " + "; ".join(pairs))

    def test_numbers_of_sixty_figures(self):
        for one in ((1, GREATEST), (GREATEST - 1, GREATEST), (SIXTY, GREATEST), (ODD_SIXTY, GREATEST - 1),
                    (SIXTY - 1, SIXTY)):
            text = f"1: 0 {one[0]}/{one[1]}; {one[0]}/{one[1]} 1"
            self.assertEqual(read_rule(text), (1, ((ZERO, one), (one, ONE))))
            self.assertEqual(show_rule(read_rule(text)), text)

    def test_rules_of_more_figures_are_shown_but_not_read(self):
        for one in ((1, 10 ** 60), (10 ** 300, 10 ** 300 + 1), (1, 10 ** 3999)):
            text = show_rule(rule_of(1, [WHOLE, (one, ONE)]))
            self.assertEqual(text, f"1: 0 1; {one[0]}/{one[1]} 1")
            self.assertRaises(NoText, read_rule, text)

    def test_asked_again_they_tell_the_same_and_change_nothing(self):
        rule, plan = copy.deepcopy(READ_RULE), copy.deepcopy(READ_PLAN)
        for ask, thing in ((show_rule, rule), (show_plan, plan), (read_rule, RULE), (read_plan, PLAN)):
            first = ask(thing)
            ask(thing)
            self.assertEqual(ask(thing), first)
        self.assertEqual((rule, plan), (READ_RULE, READ_PLAN))


def rule_kinds(thing):
    return tuple(rule_kinds(part) for part in thing) if isinstance(thing, tuple) else type(thing)


class Refusals(unittest.TestCase):
    def check_refused(self, read, text, refusal=NoText):
        with self.subTest(repr(text)), self.assertRaises(refusal):
            read(text)


class NoTexts(Refusals):
    def test_what_is_no_text_at_all(self):
        for thing in NO_TEXTS:
            self.check_refused(read_rule, thing)
            self.check_refused(read_plan, thing)

    def test_blanks_and_signs_too_many_or_lacking(self):
        for right in (RULE, "1: 0 1/2; 1/3 1", "12: " + "; ".join(["0 1"] * 13)):
            read_rule(right)
            for text in spoiled(right):
                self.check_refused(read_rule, text)
        for right in (PLAN, "plan 3: 0 1; 0 1; 0 1", "plan 12: " + "; ".join(["0 1"] * 12)):
            read_plan(right)
            for text in spoiled(right):
                self.check_refused(read_plan, text)

    def test_a_number_of_trials_that_is_none(self):
        for number in NO_NUMBERS + ("1/2", "2/1", "3/2", "2 2", "n", "2.", "1/1", "plan 2"):
            self.check_refused(read_rule, f"{number}: 0 1; 0 1")
            self.check_refused(read_rule, f"{number}: 0 1; 0 1; 0 1")
            self.check_refused(read_plan, f"plan {number}: 0 1; 0 1")
            self.check_refused(read_plan, f"plan {number}: 0 1")

    def test_ends_of_a_rule_that_are_none(self):
        for word in NO_FRACTIONS:
            for text in (f"1: {word} 1; 0 1", f"1: 0 {word}; 0 1", f"1: 0 1; {word} 1", f"1: 0 1; 0 {word}",
                         f"1: {word} {word}; {word} {word}"):
                self.check_refused(read_rule, text)

    def test_bounds_of_a_plan_that_are_none(self):
        for word in NO_FRACTIONS + ("1/2", "-1/2", "3/2", f"1/{GREATEST}"):
            for text in (f"plan 2: {word} 1; 0 1", f"plan 2: 0 {word}; 0 1", f"plan 2: 0 1; {word} 1",
                         f"plan 2: 0 1; 0 {word}", f"plan 1: {word} {word}"):
                self.check_refused(read_plan, text)

    def test_no_pair_and_pairs_of_one_or_three(self):
        for pairs in ("", " ", "0", "0 1; 0", "0; 0 1", "0 1 1; 0 1", "0 1; 0 1 1", "0 1;", "0 1; ", "; 0 1", "0 1 0 1",
                      "0 1; ; 0 1", "0 1; 0  1", "0  1; 0 1", " 0 1; 0 1", "0 1; 0 1 ", "0 1 ; 0 1"):
            self.check_refused(read_rule, f"1: {pairs}")
            self.check_refused(read_plan, f"plan 2: {pairs}")
        for text in ("1", "1:", "1: ", "0 1; 0 1", ": 0 1; 0 1", "1 0 1; 0 1"):
            self.check_refused(read_rule, text)
            self.check_refused(read_plan, f"plan {text}")

    def test_the_word_plan(self):
        for text in (PLAN[5:], "plan" + PLAN[5:], "plan  " + PLAN[5:], " " + PLAN, "Plan" + PLAN[4:], "PLAN" + PLAN[4:],
                     "plan plan" + PLAN[4:], "plan " + PLAN, "plans" + PLAN[4:], "plan:" + PLAN[4:], "plan", "plan ",
                     "pla" + PLAN[4:], "rule" + PLAN[4:], "a" + PLAN, "plan\t" + PLAN[5:], "plan\n" + PLAN[5:]):
            self.check_refused(read_plan, text)
        for text in (PLAN, "plan " + RULE, "rule " + RULE, "plan" + RULE, "plan 1: 0 1; 0 1"):
            self.check_refused(read_rule, text)
        self.check_refused(read_plan, "plan " + RULE)

    def test_a_text_that_is_none_is_no_rule_either(self):
        # Nor are n and the number of pairs right: but what isn't written as it ought to be comes first.
        for text in ("13: 0 2/4", "0: 1/1 0", "2: 0 1/2; 1/4 3/4; 1/2 01", "1: 2 1/1", "-1: 0 1 ", "99: 0 1;0 1"):
            self.check_refused(read_rule, text)
        for text in ("plan 13: 0 1/2", "plan 0: 01 1", "plan 1: 5 1/1", "plan -1: 0 1 ", "plan 2: 3 -0; 0 1"):
            self.check_refused(read_plan, text)


class NoRulesAndNoPlans(Refusals):
    def test_an_n_that_does_not_fit(self):
        for n in (0, -1, -2, 1, 3, 12, 13, 14, SIXTY, GREATEST, -GREATEST):
            self.check_refused(read_rule, f"{n}: 0 1; 0 1; 0 1", NoRule)
            self.check_refused(read_plan, f"plan {n}: 0 1; 0 1", NoPlan)
        for n in (0, 13, 14):
            self.check_refused(read_rule, f"{n}: " + "; ".join(["0 1"] * (n + 1)), NoRule)
        for n in (13, 14):
            self.check_refused(read_plan, f"plan {n}: " + "; ".join(["0 1"] * n), NoPlan)
        self.check_refused(read_rule, "-1: 0 1", NoRule)
        self.check_refused(read_plan, "plan 0: 0 1", NoPlan)

    def test_ends_that_are_no_shares(self):
        for word in NO_SHARES:
            for text in (f"1: {word} 1; 0 1", f"1: 0 {word}; 0 1", f"1: 0 1; {word} 1", f"1: 0 1; 0 {word}",
                         f"1: {word} {word}; {word} {word}"):
                self.check_refused(read_rule, text, NoRule)

    def test_lows_and_highs_that_fall_or_are_greater(self):
        for text in ("1: 1/2 1/3; 1/2 1", "1: 1/2 1; 1/3 1", "1: 0 1; 0 1/2", "2: 0 1; 0 1; 0 1/2", "1: 1 0; 1 0",
                     f"1: {GREATEST - 1}/{GREATEST} 1; {GREATEST - 2}/{GREATEST - 1} 1",
                     f"1: 1/{GREATEST - 1} 1/{GREATEST}; 1 1"):
            self.check_refused(read_rule, text, NoRule)

    def test_bounds_that_are_no_plan(self):
        for text in ("2: -2 1; 0 1", "2: 0 3; 0 1", "2: 1 1; 0 1", "2: 1 0; 0 1", "2: 0 1; 0 2", "2: 0 1; 3 4",
                     "2: 0 1; -2 -1", "1: -1 1", "1: 0 0", "1: 2 3", f"1: {GREATEST} {SIXTY}", f"1: 0 {GREATEST}",
                     f"1: -{GREATEST} 1", "3: 0 1; 0 1", "1: 0 1; 0 1"):
            self.check_refused(read_plan, "plan " + text, NoPlan)


if __name__ == "__main__":
    unittest.main()
