"""What is promised over the whole program: of every function of the interface alike."""

import copy
import importlib
import inspect
import os
import pathlib
import subprocess
import sys
import tempfile
import unittest
from fractions import Fraction
from itertools import combinations

from surestretch.covers import least, sure
from surestretch.desk import Desk
from surestretch.early import chance, errors_of
from surestretch.errors import StretchError
from surestretch.exchanges import shares
from surestretch.makers import moved, tails, tight
from surestretch.rules import cover, rule_of
from surestretch.spent import spent
from surestretch.urns import urn_cover, urn_least, urn_tails
from test_early import PLANS
from test_ratios import GREATEST, SIXTY, as_told
from test_rules import HALF, RULES, cover_by_formula, edge_values, places

TOP = pathlib.Path(__file__).resolve().parent.parent

INTERFACE = {
    "ratios": {"is_whole": "thing", "is_share": "thing", "fraction": "top bottom", "plus": "one other",
               "minus": "one other", "times": "one other", "over": "one other", "under": "one other"},
    "choose": {"choices": "n k"},
    "trials": {"weight": "n k p", "run_sum": "n i j p"},
    "rules": {"rule_of": "n stretches", "held": "rule p", "cover": "rule p", "edges": "rule", "pieces": "rule",
              "is_within": "one other"},
    "covers": {"least": "rule", "sure": "rule share"},
    "makers": {"tails": "n share measure", "moved": "rule k end measure", "tight": "rule share measure",
               "span": "rule"},
    "urns": {"urn_weight": "N T n k", "count_rule": "N n stretches", "urn_cover": "rule T", "urn_least": "rule",
             "urn_tails": "N n share", "urn_tight": "rule share"},
    "exchanges": {"sums": "one other", "shares": "one other", "shift": "one other share"},
    "early": {"plan_of": "n bounds", "ends": "plan", "run_through": "plan row", "chance": "plan word p",
              "mean": "plan p", "errors_of": "plan one other"},
    "spent": {"spent": "n p e"},
    "texts": {"show_fraction": "one", "read_rule": "text", "show_rule": "rule", "read_plan": "text",
              "show_plan": "plan"},
}

STRETCHES = [[(0, 1), (1, 2)], [(1, 4), (3, 4)], [(1, 2), (1, 1)]]
RULE = (2, (((0, 1), (1, 2)), ((1, 4), (3, 4)), ((1, 2), (1, 1))))
WIDE = (2, (((0, 1), (9, 10)), ((0, 1), (1, 1)), ((1, 10), (1, 1))))
COUNTS = [[0, 2], [1, 3], [2, 4]]
COUNT_RULE = (4, 2, ((0, 2), (1, 3), (2, 4)))
BOUNDS = [[-1, 2], [0, 2], [1, 2]]
PLAN = (3, ((-1, 2), (0, 2), (1, 2)))
LONG = (SIXTY, GREATEST)

# Some right askings of every function, with lists wherever lists may stand.
ASKINGS = [
    ("ratios", "is_whole", [7]), ("ratios", "is_whole", [[7]]), ("ratios", "is_share", [(1, 2)]),
    ("ratios", "is_share", [[1, 2]]), ("ratios", "fraction", [6, -4]), ("ratios", "plus", [(1, 2), LONG]),
    ("ratios", "minus", [(1, 2), LONG]), ("ratios", "times", [(1, 2), LONG]), ("ratios", "over", [(1, 2), LONG]),
    ("ratios", "under", [(1, 2), LONG]), ("choose", "choices", [60, 30]), ("trials", "weight", [12, 5, LONG]),
    ("trials", "run_sum", [12, 3, 7, LONG]), ("rules", "rule_of", [2, STRETCHES]), ("rules", "held", [RULE, (1, 3)]),
    ("rules", "held", [(1, (((0, 1), (0, 1)), ((1, 1), (1, 1)))), HALF]), ("rules", "cover", [RULE, LONG]),
    ("rules", "edges", [RULE]), ("rules", "pieces", [RULE]), ("rules", "is_within", [RULE, WIDE]),
    ("covers", "least", [RULE]), ("covers", "sure", [RULE, HALF]), ("covers", "sure", [RULE, (9, 10)]),
    ("makers", "tails", [5, (9, 10), 60]), ("makers", "moved", [WIDE, 0, "high", 10]),
    ("makers", "moved", [RULE, 0, "high", 1]), ("makers", "tight", [WIDE, HALF, 10]), ("makers", "span", [RULE]),
    ("urns", "urn_weight", [30, 11, 10, 4]), ("urns", "count_rule", [4, 2, COUNTS]),
    ("urns", "urn_cover", [COUNT_RULE, 2]), ("urns", "urn_least", [COUNT_RULE]),
    ("urns", "urn_tails", [30, 10, (4, 5)]), ("urns", "urn_tight", [COUNT_RULE, HALF]),
    ("exchanges", "sums", [[1, 4, 4], [-2, 3]]), ("exchanges", "shares", [[1, 4, 4], [-2, 3]]),
    ("exchanges", "shift", [[1, 4, 4], [-2, 3], (1, 10)]), ("exchanges", "shift", [[1, 4], [2, 3], (1, 10)]),
    ("early", "plan_of", [3, BOUNDS]), ("early", "ends", [PLAN]),
    ("early", "run_through", [PLAN, [False, True, True, False]]), ("early", "run_through", [PLAN, []]),
    ("early", "chance", [PLAN, "high", LONG]), ("early", "mean", [PLAN, LONG]),
    ("early", "errors_of", [PLAN, (1, 3), (2, 3)]), ("spent", "spent", [12, HALF, (1, 20)]),
    ("texts", "show_fraction", [LONG]), ("texts", "read_rule", ["2: 0 1/2; 1/4 3/4; 1/2 1"]),
    ("texts", "show_rule", [RULE]), ("texts", "read_plan", ["plan 2: -1 2; 0 1"]), ("texts", "show_plan", [PLAN]),
]
# And some that are refused.
REFUSED = [
    ("ratios", "fraction", [[6], 4]), ("rules", "rule_of", [2, STRETCHES[:2]]),
    ("rules", "rule_of", [1, [[[0, 1], [1, 1]]] * 2]), ("makers", "tight", [RULE, (1, 1), 10]),
    ("makers", "tight", [RULE, HALF, 21]), ("urns", "count_rule", [4, 2, COUNTS[:2]]),
    ("urns", "urn_tight", [(4, 2, ((0, 1), (1, 3), (3, 4))), (1, 1)]), ("early", "plan_of", [3, BOUNDS[:2]]),
    ("early", "plan_of", [1, [[[0], [1]]]]), ("texts", "read_rule", [["2: 0 1"]]),
    ("texts", "read_plan", [["plan 1: 0 1"]]),
]
SAID = ("rule a 2: 0 1/2; 1/4 3/4; 1/2 1", "show a", "cover a 1/3", "least a", "sure a 1/2", "sure a 9/10", "span a",
        "tails b 3 4/5 10", "tight b 4/5 10", "show b", "plan c 2: -1 2; 0 1", "show c", "spend d 12 1/2 1/20",
        "show d", "chance d high 1/2", "mean d 1/2", "drop a")


def function(module, name):
    return getattr(importlib.import_module(f"surestretch.{module}"), name)


def ask(asking):
    module, name, arguments = asking
    return function(module, name)(*arguments)


def lists_within(thing):
    found = [thing] if isinstance(thing, list) else []
    if isinstance(thing, (list, tuple)):
        for part in thing:
            found += lists_within(part)
    return found


def kinds_within(thing):
    if isinstance(thing, (list, tuple)):
        return {type(thing)}.union(*[kinds_within(part) for part in thing])
    return {type(thing)}


def answers():
    """All that is told of the askings, as one text."""
    desk = Desk()
    return repr([ask(asking) for asking in ASKINGS] + [desk.say(row) for row in SAID])


class TheInterface(unittest.TestCase):
    def test_every_name_and_its_arguments(self):
        for module, functions in INTERFACE.items():
            for name, parameters in functions.items():
                with self.subTest(module=module, name=name):
                    found = inspect.signature(function(module, name)).parameters
                    self.assertEqual(list(found), parameters.split(" "))

    def test_arguments_may_be_handed_in_by_name(self):
        for module, name, arguments in ASKINGS:
            with self.subTest(module=module, name=name):
                parameters = INTERFACE[module][name].split(" ")
                told = function(module, name)(**dict(zip(parameters, arguments, strict=True)))
                self.assertEqual(told, ask((module, name, arguments)))

    def test_every_function_is_asked_here(self):
        asked = {(module, name) for module, name, arguments in ASKINGS}
        self.assertEqual(asked, {(module, name) for module, functions in INTERFACE.items() for name in functions})

    def test_the_modules_are_the_documents(self):
        found = {path.stem for path in (TOP / "surestretch").glob("*.py")}
        self.assertLessEqual(set(INTERFACE) | {"errors", "desk", "__init__"}, found)


class WhatIsHandedIn(unittest.TestCase):
    def test_nothing_is_changed(self):
        for asking in ASKINGS:
            with self.subTest(asking):
                kept = copy.deepcopy(asking)
                ask(asking)
                self.assertEqual(asking, kept)

    def test_nothing_is_changed_where_it_is_refused(self):
        for asking in REFUSED:
            with self.subTest(asking):
                kept = copy.deepcopy(asking)
                self.assertRaises(StretchError, ask, asking)
                self.assertEqual(asking, kept)

    def test_what_is_done_to_it_later_changes_nothing(self):
        for asking in copy.deepcopy(ASKINGS):
            with self.subTest(asking):
                told = ask(asking)
                kept = copy.deepcopy(told)
                for one in lists_within(asking[2]):
                    one.clear()
                self.assertEqual(told, kept)


class WhatIsTold(unittest.TestCase):
    def test_whole_numbers_texts_truths_tuples_and_lists_alone(self):
        for asking in ASKINGS:
            with self.subTest(asking):
                self.assertLessEqual(kinds_within(ask(asking)), {int, str, bool, type(None), tuple, list})

    def test_lists_where_the_interface_says_so_and_nowhere_else(self):
        lists = {"edges", "pieces", "sums", "ends"}
        for asking in ASKINGS:
            with self.subTest(asking):
                told = ask(asking)
                self.assertEqual(isinstance(told, list), asking[1] in lists)
                self.assertEqual(len(lists_within(told)), 1 if asking[1] in lists else 0)

    def test_truths_where_the_interface_says_so_and_nowhere_else(self):
        for asking in ASKINGS:
            with self.subTest(asking):
                truths = asking[1] in ("is_whole", "is_share", "under", "is_within")
                self.assertEqual(bool in kinds_within(ask(asking)), truths)

    def test_each_list_is_the_askers_own(self):
        for asking in ASKINGS:
            told = ask(asking)
            for one in lists_within(told):
                with self.subTest(asking):
                    kept = list(one)
                    again = ask(asking)
                    self.assertIsNot(again, told)
                    one.clear()
                    one.extend(["else", None])
                    self.assertEqual(again, kept)
                    self.assertEqual(ask(asking), kept)

    def test_asked_again_the_same_is_told(self):
        first = [ask(asking) for asking in ASKINGS]
        for asking in REFUSED:
            self.assertRaises(StretchError, ask, asking)
        self.assertEqual([ask(asking) for asking in reversed(ASKINGS)], first[::-1])
        self.assertEqual(answers(), answers())

    def test_elsewhere_and_at_another_time_the_same_is_told(self):
        awaited = answers()
        command = [sys.executable, "-B", "-c", "import test_whole; print(test_whole.answers())"]
        paths = os.pathsep.join([str(TOP), str(TOP / "tests")])
        for seed in ("0", "1", "77"):
            with tempfile.TemporaryDirectory() as folder, self.subTest(seed):
                around = dict(os.environ, PYTHONPATH=paths, PYTHONHASHSEED=seed)
                told = subprocess.run(command, cwd=folder, env=around, capture_output=True, text=True, check=True)
                self.assertEqual(told.stdout.rstrip("\n"), awaited)
                self.assertEqual(os.listdir(folder), [])


class ThePromise(unittest.TestCase):
    def test_sure_just_where_it_is_and_else_a_share_at_which_it_is_not(self):
        for rule in RULES[::3]:
            found, at, side = least(rule)
            values = edge_values(rule)
            self.assertGreaterEqual(min(cover_by_formula(rule, p) for p in places(rule)), Fraction(*found))
            beside = values[values.index(Fraction(*at)) + (1 if side == "above" else -1)]
            for part in (10, 10 ** 9):
                p = Fraction(*at) + (beside - Fraction(*at)) / part
                self.assertLessEqual(cover_by_formula(rule, p) - Fraction(*found), rule[0] * abs(p - Fraction(*at)))
            for share in (found, HALF, (9, 10), (1, 1)):
                told = sure(rule, share)
                with self.subTest(rule=rule, share=share):
                    if Fraction(*found) >= Fraction(*share):
                        self.assertEqual(told, ("sure", found))
                    else:
                        self.assertEqual(told[0], "not")
                        self.assertEqual(told[2], cover(rule, told[1]))
                        self.assertLess(cover_by_formula(rule, Fraction(*told[1])), Fraction(*share))

    def test_rules_made_are_sure_and_made_tight_no_end_can_be_moved(self):
        for n, share, measure in ((1, (1, 2), 12), (2, (9, 10), 20), (4, (4, 5), 10), (6, (19, 20), 5)):
            made = tails(n, share, measure)
            shorter = tight(made, share, measure)
            with self.subTest(n=n, share=share, measure=measure):
                self.assertEqual(sure(made, share)[0], "sure")
                self.assertEqual(sure(shorter, share)[0], "sure")
                for k in range(n + 1):
                    for end in ("low", "high"):
                        other = moved(shorter, k, end, measure)
                        self.assertTrue(other is None or sure(other, share)[0] == "not")

    def test_stretches_for_more_wins_never_lie_lower(self):
        made = [tails(n, share, 60) for n in range(1, 13) for share in (HALF, (19, 20))]
        made += [tight(tails(n, (4, 5), 10), (4, 5), 10) for n in range(1, 5)]
        for rule in made:
            self.assertEqual(rule_of(*rule), rule)
            for ahead, behind in zip(rule[1], rule[1][1:]):
                for one, other in zip(ahead, behind):
                    self.assertLessEqual(Fraction(*one), Fraction(*other))

    def test_where_nothing_is_put_back_all_true_counts_are_gone_through(self):
        for N, n in ((1, 1), (5, 3), (12, 10), (30, 4), (30, 10)):
            rule = urn_tails(N, n, (9, 10))
            covers = [Fraction(*urn_cover(rule, T)) for T in range(N + 1)]
            self.assertEqual(urn_least(rule), (as_told(min(covers)), covers.index(min(covers))))
            self.assertGreaterEqual(min(covers), Fraction(9, 10))

    def test_the_share_of_two_groups_is_the_plain_count_of_all_exchanges(self):
        for one, other in (([1], [2]), ([3, 3, 1], [2, 3]), ([-5, 0, 7, 7, 1], [0, 1, 2, 3, 4]), ([9] * 4, [8] * 6)):
            chosen = [sum(values) for values in combinations(one + other, len(one))]
            up = Fraction(len([total for total in chosen if total >= sum(one)]), len(chosen))
            down = Fraction(len([total for total in chosen if total <= sum(one)]), len(chosen))
            self.assertEqual(shares(one, other), (as_told(up), as_told(down)))

    def test_a_plan_errs_no_oftener_than_told(self):
        asked = [Fraction(k, 20) for k in range(21)]
        for plan in PLANS[::3] + [spent(n, (2, 5), (1, 10)) for n in range(1, 13)]:
            first, second = [Fraction(*error) for error in errors_of(plan, (2, 5), (3, 5))]
            for p in asked:
                with self.subTest(plan=plan, p=p):
                    if p <= Fraction(2, 5):
                        self.assertLessEqual(Fraction(*chance(plan, "high", as_told(p))), first)
                    if p >= Fraction(3, 5):
                        self.assertLessEqual(Fraction(*chance(plan, "low", as_told(p))), second)


if __name__ == "__main__":
    unittest.main()
