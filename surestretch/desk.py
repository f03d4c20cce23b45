"""A desk that keeps rules and plans by names, and answers rows of words."""

from surestretch.covers import least, sure
from surestretch.early import chance, mean
from surestretch.errors import NoName, NoRow, NoText
from surestretch.makers import span, tails, tight
from surestretch.ratios import is_share
from surestretch.rules import cover
from surestretch.spent import spent
from surestretch.texts import (read_bounds, read_fraction, read_rule, read_whole, show_fraction, show_plan,
                               show_rule)

LETTERS = "abcdefghijklmnopqrstuvwxyz"

# What stands behind the name in the rows that begin so.
FORMS = {
    "rule": ("text",), "plan": ("text",), "show": (), "drop": (),
    "tails": ("trials", "share above 0", "measure"), "tight": ("share", "measure"),
    "cover": ("share",), "least": (), "sure": ("share",), "span": (),
    "spend": ("trials", "share", "share"), "chance": ("word", "share"), "mean": ("share",),
}

# What kind of thing stands by the name behind these rows, and what kind is to stand there ahead of them.
MAKES = {"rule": "rule", "plan": "plan", "tails": "rule", "tight": "rule", "spend": "plan"}
NEEDS = {"show": "either", "drop": "either", "tight": "rule", "cover": "rule", "least": "rule", "sure": "rule",
         "span": "rule", "chance": "plan", "mean": "plan"}


class Desk:
    def __init__(self):
        self.kept = {}

    def say(self, row):
        asked = read_row(row)
        first = asked[0]
        name = asked[1]
        values = asked[2]
        due = self.find_due(first, name)
        if first in MAKES:
            # What is refused is refused in the making, ahead of any change.
            self.kept[name] = (MAKES[first], make(first, due, values))
            return "ok"
        if first == "drop":
            self.kept.pop(name)
            return "ok"
        return answer(first, due, values)

    def find_due(self, first, name):
        if not is_name(name):
            raise NoName("a name is one to eight small letters")
        if first not in NEEDS:
            return None
        if name not in self.kept:
            raise NoName("nothing stands by this name")
        due = self.kept[name]
        if NEEDS[first] not in ("either", due[0]):
            raise NoName("by this name stands a thing of the other kind")
        return due


def read_row(row):
    if not isinstance(row, str):
        raise NoRow("a row is a text")
    first = row.partition(" ")[0]
    if first not in FORMS:
        raise NoRow("no row begins so")
    form = FORMS[first]
    # A rule's or plan's text goes on to the row's end, with all blanks in it.
    words = row.split(" ", 2) if form == ("text",) else row.split(" ")
    if len(words) != len(form) + 2:
        raise NoRow("too few words, or too many, for a row that begins so")
    return (first, words[1], [value_of(kind, word) for kind, word in zip(form, words[2:])])


def value_of(kind, word):
    if kind == "text":
        return word
    if kind == "word":
        return word_in(word)
    if kind == "trials":
        return number_in(word, 12)
    if kind == "measure":
        return number_in(word, 60)
    share = share_in(word)
    if kind == "share above 0" and share == (0, 1):
        raise NoRow("a share above 0 is due")
    return share


def word_in(word):
    if word not in ("low", "high"):
        raise NoRow("low or high is due")
    return word


def number_in(word, most):
    try:
        number = read_whole(word)
    except NoText:
        raise NoRow("a whole number is due")
    if number < 1 or number > most:
        raise NoRow("the number is too small or too great")
    return number


def share_in(word):
    try:
        share = read_fraction(word)
    except NoText:
        raise NoRow("a share is due")
    if not is_share(share):
        raise NoRow("a share is from 0 to 1")
    return share


def is_name(word):
    return 1 <= len(word) <= 8 and all([sign in LETTERS for sign in word])


def make(first, due, values):
    if first == "rule":
        return read_rule(values[0])
    if first == "plan":
        return read_bounds(values[0])
    if first == "tails":
        return tails(values[0], values[1], values[2])
    if first == "tight":
        return tight(due[1], values[0], values[1])
    return spent(values[0], values[1], values[2])


def answer(first, due, values):
    thing = due[1]
    if first == "show":
        return show_rule(thing) if due[0] == "rule" else show_plan(thing)
    if first == "least":
        return show_least(least(thing))
    if first == "sure":
        return show_sure(sure(thing, values[0]))
    if first == "cover":
        return show_fraction(cover(thing, values[0]))
    if first == "span":
        return show_fraction(span(thing))
    if first == "chance":
        return show_fraction(chance(thing, values[0], values[1]))
    return show_fraction(mean(thing, values[0]))


def show_least(told):
    return " ".join([show_fraction(told[0]), show_fraction(told[1]), told[2]])


def show_sure(told):
    if told[0] == "sure":
        return "yes"
    return " ".join(["no", show_fraction(told[1]), show_fraction(told[2])])
