"""Fractions, rules and plans as texts."""

from surestretch.early import plan_of
from surestretch.errors import NoText
from surestretch.ratios import common_divisor
from surestretch.rules import rule_of

FIGURES = "0123456789"


def show_fraction(one):
    if one[1] == 1:
        return str(one[0])
    return str(one[0]) + "/" + str(one[1])


def show_rule(rule):
    return show_pairs(rule[0], [(show_fraction(low), show_fraction(high)) for low, high in rule[1]])


def show_plan(plan):
    return "plan " + show_pairs(plan[0], [(str(low), str(high)) for low, high in plan[1]])


def show_pairs(n, pairs):
    return str(n) + ": " + "; ".join([low + " " + high for low, high in pairs])


def read_rule(text):
    written = read_pairs(text, read_fraction)
    return rule_of(written[0], written[1])


def read_plan(text):
    if not isinstance(text, str) or not text.startswith("plan "):
        raise NoText("the text of a plan begins with the word plan")
    return read_bounds(text[len("plan "):])


def read_bounds(text):
    written = read_pairs(text, read_whole)
    return plan_of(written[0], written[1])


def read_pairs(text, read_end):
    if not isinstance(text, str):
        raise NoText("this is no text")
    parts = text.partition(": ")
    # Where nothing stands behind, or no colon at all, there is one pair without signs, which is refused.
    return (read_whole(parts[0]), [read_pair(pair, read_end) for pair in parts[2].split("; ")])


def read_pair(text, read_end):
    written = text.split(" ")
    if len(written) != 2:
        raise NoText("a pair is a low and a high with a blank between")
    return (read_end(written[0]), read_end(written[1]))


def read_fraction(text):
    parts = text.partition("/")
    top = read_whole(parts[0])
    if parts[1] == "":
        return (top, 1)
    bottom = read_whole(parts[2])
    if bottom < 2 or common_divisor(abs(top), bottom) != 1:
        raise NoText("a fraction is written in lowest terms, a bottom of 1 not at all")
    return (top, bottom)


def read_whole(text):
    below = text.startswith("-")
    figures = text[1:] if below else text
    if len(figures) < 1 or len(figures) > 60 or not all([sign in FIGURES for sign in figures]):
        raise NoText("a whole number is written with one to sixty figures")
    if figures.startswith("0") and (below or len(figures) > 1):
        raise NoText("no nought stands ahead, and no - ahead of 0")
    return int(text)
