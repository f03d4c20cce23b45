import inspect
import unittest
from fractions import Fraction

from surestretch.covers import least, sure
from surestretch.desk import Desk
from surestretch.early import chance, mean
from surestretch.errors import NoName, NoPlan, NoRow, NoRule, NoText, NotSure, StretchError, TooMuch
from surestretch.makers import span, tails, tight
from surestretch.rules import cover
from surestretch.spent import spent
from surestretch.texts import read_plan, read_rule, show_fraction, show_plan, show_rule
from test_covers import CROWD, HAIR
from test_early import LATE, PLANS
from test_makers import ASKED
from test_ratios import GREATEST, SIXTY
from test_rules import RULES, cover_by_formula
from test_texts import NO_FRACTIONS, NO_NUMBERS, NO_SHARES, NO_TEXTS, PLAN, RULE, spoiled

BARE_PLAN = PLAN[5:]
# A right row of each sort, where by the name "one" stands a rule and by "two" a plan.
RULE_ROWS = ("tight one 1/2 10", "cover one 1/3", "least one", "sure one 1/2", "sure one 9/10", "span one")
PLAN_ROWS = ("chance two low 1/3", "chance two high 1/3", "mean two 1/3")
EITHER_ROWS = ("show one", "show two", "drop one", "drop two")
NEW_ROWS = (f"rule one {RULE}", f"plan two {BARE_PLAN}", "tails one 2 4/5 10", "spend two 2 1/2 1/3")
ROWS = RULE_ROWS + PLAN_ROWS + EITHER_ROWS + NEW_ROWS
NO_NAMES = ("", "A", "One", "onE", "one1", "1", "a_b", "a-b", "a.b", "a:", "abcdefghi", "a" * 9, "a" * 60, "a/b", "~",
            "{", "`", "@", "a\n", "\ta", "a\t", "\u00e9", "\u00df", "\u0430")
NAMES = ("a", "z", "ab", "abcdefgh", "zzzzzzzz", "rule", "plan", "show", "low", "high", "least", "ok", "yes", "no")


def new_desk():
    desk = Desk()
    desk.say(f"rule one {RULE}")
    desk.say(f"plan two {BARE_PLAN}")
    return desk


def named(row, name):
    """The row with another name in it."""
    words = row.split(" ")
    return " ".join([words[0], name] + words[2:])


class Checks(unittest.TestCase):
    def check_said(self, desk, row, awaited):
        with self.subTest(row):
            told = desk.say(row)
            self.assertIs(type(told), str)
            self.assertEqual(told, awaited)

    def check_refused(self, refusal, row):
        desk = new_desk()
        with self.subTest(repr(row)):
            with self.assertRaises(refusal) as caught:
                desk.say(row)
            self.assertIs(type(caught.exception), refusal)
            self.check_as_new(desk)

    def check_as_new(self, desk):
        """Nothing is changed: what stood by its name does, and nothing else stands anywhere."""
        self.assertEqual(desk.say("show one"), RULE)
        self.assertEqual(desk.say("show two"), PLAN)
        for name in ("three", "a", "x", "new"):
            self.assertRaises(NoName, desk.say, f"show {name}")


class Said(Checks):
    def test_a_rule_is_kept_and_shown(self):
        desk = Desk()
        for name in NAMES:
            self.check_said(desk, f"rule {name} {RULE}", "ok")
            self.check_said(desk, f"show {name}", RULE)
            self.check_said(desk, f"show {name}", RULE)

    def test_a_plan_is_kept_and_shown_with_the_word(self):
        desk = Desk()
        for name in NAMES:
            self.check_said(desk, f"plan {name} {BARE_PLAN}", "ok")
            self.check_said(desk, f"show {name}", PLAN)

    def test_all_sorts_of_rules_and_plans(self):
        desk = Desk()
        for rule in RULES[::4]:
            if all(end[1] < 10 ** 60 for stretch in rule[1] for end in stretch):
                self.check_said(desk, f"rule a {show_rule(rule)}", "ok")
                self.check_said(desk, "show a", show_rule(rule))
        for plan in PLANS[::4] + LATE:
            self.check_said(desk, f"plan b {show_plan(plan)[5:]}", "ok")
            self.check_said(desk, "show b", show_plan(plan))

    def test_tails(self):
        desk = Desk()
        for number, share in enumerate(ASKED):
            for n, measure in ((1, 1), (2, 10), (5, 7), (12, 60), (number % 12 + 1, 60 - number)):
                self.check_said(desk, f"tails a {n} {show_fraction(share)} {measure}", "ok")
                self.check_said(desk, "show a", show_rule(tails(n, share, measure)))

    def test_tight(self):
        for n, share, measure in ((1, (1, 2), 1), (2, (4, 5), 10), (3, (9, 10), 20), (6, (19, 20), 4), (2, (0, 1), 5)):
            desk = Desk()
            desk.say(f"tails a {n} 19/20 60")
            made = tails(n, (19, 20), 60)
            self.check_said(desk, f"tight a {show_fraction(share)} {measure}", "ok")
            self.check_said(desk, "show a", show_rule(tight(made, share, measure)))
            self.check_said(desk, f"sure a {show_fraction(share)}", "yes")
        desk = Desk()
        desk.say("tails a 2 4/5 10")
        desk.say("tight a 4/5 10")
        self.check_said(desk, "show a", "2: 0 3/5; 1/10 9/10; 2/5 1")

    def test_spend(self):
        desk = Desk()
        for n in range(1, 13):
            for p, e in (((0, 1), (0, 1)), ((1, 2), (1, 20)), ((1, 3), (1, 1)), ((1, GREATEST), (SIXTY, GREATEST)),
                         ((1, 1), (1, 2))):
                self.check_said(desk, f"spend a {n} {show_fraction(p)} {show_fraction(e)}", "ok")
                self.check_said(desk, "show a", show_plan(spent(n, p, e)))

    def test_drop(self):
        for name in ("one", "two"):
            desk = new_desk()
            self.check_said(desk, f"drop {name}", "ok")
            for row in ("show", "drop", "least", "span"):
                self.assertRaises(NoName, desk.say, f"{row} {name}")
            other = "two" if name == "one" else "one"
            self.check_said(desk, f"show {other}", PLAN if other == "two" else RULE)
            self.check_said(desk, f"rule {name} {RULE}", "ok")
            self.check_said(desk, f"show {name}", RULE)

    def test_cover_least_and_span(self):
        desk = new_desk()
        self.check_said(desk, "cover one 1/3", "8/9")
        self.check_said(desk, "cover one 0", "1")
        self.check_said(desk, "cover one 1", "1")
        self.check_said(desk, "least one", "9/16 1/4 below")
        self.check_said(desk, "span one", "3/2")
        desk.say("rule one 1: 0 1/3; 1/3 1")
        self.check_said(desk, "least one", "1/3 1/3 above")
        desk.say("rule one 1: 0 0; 1 1")
        self.check_said(desk, "cover one 1/2", "0")
        self.check_said(desk, "least one", "0 0 above")
        self.check_said(desk, "span one", "0")
        desk.say("rule one 3: 0 1; 0 1; 0 1; 0 1")
        self.check_said(desk, "least one", "1 0 above")
        self.check_said(desk, "span one", "4")

    def test_of_many_rules(self):
        desk = Desk()
        for rule in RULES[::7] + [HAIR, CROWD]:
            if all(end[1] < 10 ** 60 for stretch in rule[1] for end in stretch):
                desk.say(f"rule a {show_rule(rule)}")
                found, at, side = least(rule)
                self.check_said(desk, "least a", f"{show_fraction(found)} {show_fraction(at)} {side}")
                self.check_said(desk, "span a", show_fraction(span(rule)))
                for share in ((0, 1), (1, 2), (SIXTY, GREATEST), (1, 1)):
                    self.check_said(desk, f"cover a {show_fraction(share)}", show_fraction(cover(rule, share)))
                    told = sure(rule, share)
                    awaited = "yes" if told[0] == "sure" else f"no {show_fraction(told[1])} {show_fraction(told[2])}"
                    self.check_said(desk, f"sure a {show_fraction(share)}", awaited)

    def test_sure(self):
        desk = new_desk()
        for share in ("0", "1/2", "9/16"):
            self.check_said(desk, f"sure one {share}", "yes")
        for share in ("3/5", "3/4", "1", f"{GREATEST - 1}/{GREATEST}"):
            with self.subTest(share):
                answer, p, found = desk.say(f"sure one {share}").split(" ")
                self.assertEqual(answer, "no")
                self.assertEqual(Fraction(found), cover_by_formula(read_rule(RULE), Fraction(p)))
                self.assertLess(Fraction(found), Fraction(share))
                self.assertEqual(desk.say(f"cover one {p}"), found)

    def test_chance_and_mean(self):
        desk = new_desk()
        self.check_said(desk, "chance two low 1/3", "4/9")
        self.check_said(desk, "chance two high 1/3", "5/9")
        self.check_said(desk, "mean two 1/3", "2")
        self.check_said(desk, "chance two low 0", "1")
        self.check_said(desk, "chance two low 1", "0")
        for plan in PLANS[::4]:
            desk.say(f"plan a {show_plan(plan)[5:]}")
            for share in ((0, 1), (2, 5), (SIXTY, GREATEST), (1, 1)):
                for word in ("low", "high"):
                    awaited = show_fraction(chance(plan, word, share))
                    self.check_said(desk, f"chance a {word} {show_fraction(share)}", awaited)
                self.check_said(desk, f"mean a {show_fraction(share)}", show_fraction(mean(plan, share)))

    def test_all_rows_are_answered_again_alike(self):
        for row in ROWS:
            with self.subTest(row):
                self.assertEqual(new_desk().say(row), new_desk().say(row))
                if not row.startswith("drop"):
                    desk = new_desk()
                    first = desk.say(row)
                    self.assertEqual(desk.say(row), first)


class Kept(Checks):
    def test_a_name_told_again_stands_for_what_was_told_last(self):
        desk = new_desk()
        self.check_said(desk, "rule one 1: 0 1; 0 1", "ok")
        self.check_said(desk, "show one", "1: 0 1; 0 1")
        self.check_said(desk, "plan two 1: 0 1", "ok")
        self.check_said(desk, "show two", "plan 1: 0 1")
        self.check_said(desk, "tails one 1 1/2 4", "ok")
        self.check_said(desk, "show one", show_rule(tails(1, (1, 2), 4)))
        self.check_said(desk, "spend two 2 1/2 1/2", "ok")
        self.check_said(desk, "show two", "plan 2: -1 2; 1 2")

    def test_a_plan_in_the_place_of_a_rule(self):
        for row, awaited in ((f"plan one {BARE_PLAN}", PLAN), ("spend one 2 1/2 1/2", "plan 2: -1 2; 1 2")):
            desk = new_desk()
            self.check_said(desk, row, "ok")
            self.check_said(desk, "show one", awaited)
            self.assertEqual(desk.say("chance one low 1/2"), show_fraction(chance(read_plan(awaited), "low", (1, 2))))
            for rule_row in RULE_ROWS:
                self.assertRaises(NoName, desk.say, rule_row)
            self.check_said(desk, "drop one", "ok")
            # The rule that stood there once is gone too.
            self.assertRaises(NoName, desk.say, "show one")

    def test_a_rule_in_the_place_of_a_plan(self):
        for row, awaited in ((f"rule two {RULE}", RULE), ("tails two 2 4/5 10", "2: 0 7/10; 0 1; 3/10 1")):
            desk = new_desk()
            self.check_said(desk, row, "ok")
            self.check_said(desk, "show two", awaited)
            self.check_said(desk, "span two", show_fraction(span(read_rule(awaited))))
            for plan_row in PLAN_ROWS:
                self.assertRaises(NoName, desk.say, plan_row)
            self.check_said(desk, "drop two", "ok")
            self.assertRaises(NoName, desk.say, "show two")

    def test_two_desks_keep_what_is_theirs(self):
        first, second = new_desk(), Desk()
        self.assertRaises(NoName, second.say, "show one")
        second.say("rule one 1: 0 1; 0 1")
        second.say("plan three 1: 0 1")
        self.check_as_new(first)
        first.say("drop one")
        self.check_said(second, "show one", "1: 0 1; 0 1")
        self.assertRaises(NoName, first.say, "show one")

    def test_asking_changes_nothing(self):
        desk = new_desk()
        for row in RULE_ROWS[1:] + PLAN_ROWS + ("show one", "show two"):
            desk.say(row)
            self.check_as_new(desk)

    def test_many_names(self):
        desk = Desk()
        for number in range(1, 13):
            name = "abcdefghijkl"[number - 1] * (number % 8 + 1)
            desk.say(f"tails {name} {number} 1/2 10")
        for number in range(1, 13):
            name = "abcdefghijkl"[number - 1] * (number % 8 + 1)
            self.check_said(desk, f"show {name}", show_rule(tails(number, (1, 2), 10)))


class NoRows(Checks):
    def test_what_is_no_text(self):
        for thing in NO_TEXTS + (["show", "one"], ("show one",), b"show one", Desk):
            self.check_refused(NoRow, thing)

    def test_a_first_word_that_is_none(self):
        for row in ("", " ", "  ", "one", "Show one", "SHOW one", "shows one", "sho one", "show\tone", "show\none",
                    " show one", "  show one", "hold one", "one show", "\tshow one", "show, one", "urn one", "text one",
                    "either one"):
            self.check_refused(NoRow, row)
        for row in ROWS:
            self.check_refused(NoRow, " " + row)
            self.check_refused(NoRow, row[1:])
            self.check_refused(NoRow, row.upper())

    def test_too_few_words(self):
        for row in ROWS:
            words = row.split(" ")
            least_words = 3 if words[0] in ("rule", "plan") else len(words)
            for count in range(1, least_words):
                self.check_refused(NoRow, " ".join(words[:count]))

    def test_too_many_words(self):
        for row in RULE_ROWS + PLAN_ROWS + EITHER_ROWS + NEW_ROWS[2:]:
            for more in (" ", "  ", " one", " 1", " 1/2", " low", " ok", " " + row):
                self.check_refused(NoRow, row + more)

    def test_two_blanks(self):
        # A word without signs is one too many, behind the first word too.
        for row in RULE_ROWS + PLAN_ROWS + EITHER_ROWS + NEW_ROWS[2:]:
            words = row.split(" ")
            for place in range(1, len(words)):
                self.check_refused(NoRow, " ".join(words[:place]) + "  " + " ".join(words[place:]))

    def test_a_word_without_signs(self):
        for row in RULE_ROWS + PLAN_ROWS + NEW_ROWS[2:]:
            words = row.split(" ")
            for place in range(2, len(words)):
                self.check_refused(NoRow, " ".join(words[:place] + [""] + words[place + 1:]))

    def test_a_number_of_trials_that_is_none(self):
        for word in NO_NUMBERS + ("0", "-1", "13", "14", "1/2", "2/1", str(GREATEST), "12.", "02", "n", "N"):
            self.check_refused(NoRow, f"tails one {word} 4/5 10")
            self.check_refused(NoRow, f"spend two {word} 1/2 1/3")

    def test_a_measure_that_is_none(self):
        for word in NO_NUMBERS + ("0", "-1", "61", "62", "1/2", "10/1", str(GREATEST), "010"):
            self.check_refused(NoRow, f"tails one 2 4/5 {word}")
            self.check_refused(NoRow, f"tight one 1/2 {word}")

    def test_a_share_that_is_none(self):
        for word in NO_FRACTIONS + NO_SHARES + ("low", "half", "0.5"):
            for row in (f"tails one 2 {word} 10", f"tight one {word} 10", f"spend two 2 {word} 1/3",
                        f"spend two 2 1/2 {word}", f"cover one {word}", f"sure one {word}", f"chance two low {word}",
                        f"chance two high {word}", f"mean two {word}"):
                self.check_refused(NoRow, row)

    def test_a_share_of_0_for_tails_alone(self):
        self.check_refused(NoRow, "tails one 2 0 10")
        self.check_refused(NoRow, "tails new 2 0 10")
        for row in ("tight one 0 10", "spend two 2 0 0", "cover one 0", "sure one 0", "chance two low 0", "mean two 0"):
            with self.subTest(row):
                self.assertIsInstance(new_desk().say(row), str)

    def test_a_word_that_is_none(self):
        for word in ("", "Low", "LOW", "lo", "lows", "up", "above", "below", "high ", "1", "low\n", "lowhigh", "None"):
            self.check_refused(NoRow, f"chance two {word} 1/3")
        self.check_refused(NoRow, "chance two 1/3 low")
        self.check_refused(NoRow, "chance two 1/3")

    def test_a_text_that_lacks(self):
        for row in ("rule", "plan", "rule one", "plan two", "rule ", "plan ", "rule new", "plan new", "rule 1",
                    "plan A"):
            self.check_refused(NoRow, row)


class NoNames(Checks):
    def test_a_name_that_is_none(self):
        for name in NO_NAMES:
            for row in ROWS:
                self.check_refused(NoName, named(row, name))

    def test_a_name_without_signs(self):
        for row in ("show ", "drop ", "least ", "span ", "cover  1/2", "mean  1/2", "chance  low 1/2", "sure  1/2",
                    "tight  1/2 10", "tails  2 4/5 10", "spend  2 1/2 1/3", f"rule  {RULE}", f"plan  {BARE_PLAN}",
                    "rule  ", "plan  "):
            self.check_refused(NoName, row)

    def test_a_name_by_which_nothing_stands(self):
        for row in RULE_ROWS + PLAN_ROWS + EITHER_ROWS:
            for name in ("three", "a", "on", "ones", "abcdefgh"):
                self.check_refused(NoName, named(row, name))
                self.assertRaises(NoName, Desk().say, named(row, name))

    def test_a_thing_of_the_other_kind(self):
        for row in RULE_ROWS:
            self.check_refused(NoName, named(row, "two"))
        for row in PLAN_ROWS:
            self.check_refused(NoName, named(row, "one"))

    def test_names_of_one_to_eight_small_letters(self):
        desk = Desk()
        for letter in "abcdefghijklmnopqrstuvwxyz":
            for count in range(1, 9):
                self.assertEqual(desk.say(f"rule {letter * count} {RULE}"), "ok")
            for row in ROWS:
                self.assertRaises(NoName, desk.say, named(row, letter * 9))


class TheStagesRefusals(Checks):
    def test_texts_that_are_none(self):
        for text in spoiled(RULE) + [PLAN, "0 1", "1: 0 1; 0 1/1", "one"]:
            self.check_refused(NoText, f"rule one {text}")
            self.check_refused(NoText, f"rule new {text}")
            self.check_refused(NoText, f"rule two {text}")
        for text in spoiled(BARE_PLAN) + [PLAN, "plan", "0 1", "1: 0 1/2", "two"]:
            self.check_refused(NoText, f"plan two {text}")
            self.check_refused(NoText, f"plan new {text}")
            self.check_refused(NoText, f"plan one {text}")

    def test_a_text_that_is_nothing(self):
        for row in ("rule one ", "rule new ", "plan one ", "plan new "):
            self.check_refused(NoText, row)
            self.check_refused(NoText, row + " ")

    def test_a_blank_ahead_of_the_text_or_behind_it(self):
        for row in (f"rule one  {RULE}", f"rule one {RULE} ", f"plan two  {BARE_PLAN}", f"plan two {BARE_PLAN} "):
            self.check_refused(NoText, row)

    def test_rules_and_plans_that_are_none(self):
        for text in ("1: 0 1", "2: 0 1; 0 1", "0: 0 1", "-1: 0 1", "13: 0 1", "1: 0 2; 0 1", "1: -1 1; 0 1",
                     "1: 0 1; 0 1/2", "1: 1 0; 1 0"):
            self.check_refused(NoRule, f"rule one {text}")
            self.check_refused(NoRule, f"rule two {text}")
        for text in ("1: 0 1; 0 1", "2: 0 1", "0: 0 1", "-1: 0 1", "13: 0 1", "1: 0 2", "1: -2 -1", "1: 2 3",
                     "2: 0 3; 0 1"):
            self.check_refused(NoPlan, f"plan two {text}")
            self.check_refused(NoPlan, f"plan one {text}")

    def test_too_much(self):
        for measure in (21, 22, 60):
            self.check_refused(TooMuch, f"tight one 1/2 {measure}")
            # Nor is it sure to so much: but that comes behind.
            self.check_refused(TooMuch, f"tight one 1 {measure}")
        for n in range(7, 13):
            for row in ("tight a 1/2 10", "tight a 1 10", "tight a 1 21"):
                desk = Desk()
                desk.say(f"tails a {n} 9/10 10")
                with self.subTest(n=n, row=row), self.assertRaises(TooMuch):
                    desk.say(row)
                self.check_said(desk, "show a", show_rule(tails(n, (9, 10), 10)))
        desk = Desk()
        desk.say("tails a 6 9/10 20")
        self.check_said(desk, "tight a 9/10 20", "ok")

    def test_not_sure(self):
        for share in ("3/5", "9/10", "1"):
            self.check_refused(NotSure, f"tight one {share} 10")
            with self.assertRaises(NotSure) as caught:
                new_desk().say(f"tight one {share} 10")
            self.assertLess(cover_by_formula(read_rule(RULE), Fraction(*caught.exception.at)), Fraction(share))


class TheirOrder(Checks):
    def test_no_row_ahead_of_no_name(self):
        for name in ("", "A", "three", "one"):
            for row in (f"chance {name} up 1/3", f"chance {name} low 2", f"mean {name} 2/4", f"chance {name} low",
                        f"mean {name} 1/3 1"):
                self.check_refused(NoRow, row)
        for name in ("", "A", "three", "two"):
            for row in (f"cover {name} 3/2", f"sure {name} -1", f"tight {name} 1/2 61", f"tight {name} 1/2 0",
                        f"tight {name} 2 10", f"tight {name} 1/2", f"least {name} 1", f"span {name} ", f"show {name} "):
                self.check_refused(NoRow, row)
        for name in ("", "A", "abcdefghi"):
            for row in (f"tails {name} 13 4/5 10", f"tails {name} 2 0 10", f"tails {name} 2 4/5 61", f"rule {name}",
                        f"spend {name} 0 1/2 1/3", f"spend {name} 2 1/2 2", f"plan {name}", f"tails {name} 2 4/5"):
                self.check_refused(NoRow, row)

    def test_no_row_ahead_of_what_the_stages_refuse(self):
        # As it isn't sure to 1, or with 61 steps too much were asked.
        for row in ("tight one 1 61", "tight one 1 0", "tight one 2 21", "tight one 1 21 ", "tight one 3/2 10"):
            self.check_refused(NoRow, row)

    def test_no_name_ahead_of_what_the_stages_refuse(self):
        for name in ("", "A", "abcdefghi", "a1"):
            for text in ("", " ", "x", "1: 0 1", "13: 0 1", "1: 0 2; 0 1", RULE + " ", PLAN):
                self.check_refused(NoName, f"rule {name} {text}")
                self.check_refused(NoName, f"plan {name} {text}")
        for name in ("", "A", "three", "two"):
            self.check_refused(NoName, f"tight {name} 1 21")
            self.check_refused(NoName, f"tight {name} 1 10")

    def test_no_text_ahead_of_no_rule_and_no_plan(self):
        self.check_refused(NoText, "rule one 13: 0 2/4")
        self.check_refused(NoText, "plan two 13: 0 1/2")

    def test_all_are_refusals(self):
        for row in ("show", "show three", "rule one x", "rule one 1: 0 1", "plan two 1: 0 2", "tight one 1 21",
                    "tight one 1 1"):
            with self.subTest(row), self.assertRaises(StretchError):
                new_desk().say(row)

    def test_refused_in_a_row_they_change_nothing(self):
        desk = new_desk()
        for row in ("rule one 1: 0 1", "plan one 1: 0 2", "rule two x", "plan two ", "tails one 13 1/2 10",
                    "spend two 2 1/2 3/2", "tight one 1 10", "tight one 1/2 21", "tight two 1/2 10", "drop  one",
                    "drop one ", "drop three", "rule A " + RULE, "plan new x", "rule new 0: 0 1", None, 7,
                    ["drop one"]):
            with self.subTest(row), self.assertRaises(StretchError):
                desk.say(row)
            self.check_as_new(desk)


class Interface(unittest.TestCase):
    def test_the_names_of_the_arguments(self):
        self.assertEqual(list(inspect.signature(Desk).parameters), [])
        self.assertEqual(list(inspect.signature(Desk().say).parameters), ["row"])


if __name__ == "__main__":
    unittest.main()
