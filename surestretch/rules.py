"""Rules: tuples (n, stretches), with a stretch of shares for each outcome of n trials."""

from surestretch.errors import NoRule
from surestretch.ratios import is_share, is_whole, under
from surestretch.trials import run_sum


def rule_of(n, stretches):
    if not is_whole(n) or n < 1 or n > 12:
        raise NoRule("a rule is of 1 to 12 trials")
    if not is_row_of(stretches, n + 1):
        raise NoRule("a rule has one stretch for each outcome")
    kept = tuple([stretch_of(stretch) for stretch in stretches])
    for ahead, behind in zip(kept, kept[1:]):
        if under(behind[0], ahead[0]) or under(behind[1], ahead[1]):
            raise NoRule("no low and no high is less than that ahead of it")
    return (n, kept)


def is_row_of(thing, count):
    return isinstance(thing, (list, tuple)) and len(thing) == count


def stretch_of(thing):
    if not is_row_of(thing, 2):
        raise NoRule("a stretch is a low and a high")
    low = thing[0]
    high = thing[1]
    if not is_share(low) or not is_share(high):
        raise NoRule("a low and a high are shares")
    if under(high, low):
        raise NoRule("no low is greater than its high")
    return (low, high)


def held(rule, p):
    return run_over(rule, p, p)


def run_over(rule, a, b):
    # As lows and highs never fall, the outcomes whose low is past a are the last ones, and those whose high
    # falls short of b the first ones: what is left between them is a run.
    first = len([high for low, high in rule[1] if under(high, b)])
    last = len([low for low, high in rule[1] if not under(a, low)]) - 1
    if first > last:
        return None
    return (first, last)


def cover(rule, p):
    return sum_of_run(rule[0], held(rule, p), p)


def sum_of_run(n, run, p):
    if run is None:
        return (0, 1)
    return run_sum(n, run[0], run[1], p)


def edges(rule):
    ends = [(0, 1), (1, 1)]
    for stretch in rule[1]:
        ends.extend(stretch)
    told = []
    for end in ends:
        # Shares are in lowest terms: those that stand for the same are the same.
        if end not in told:
            place = len([edge for edge in told if under(edge, end)])
            told.insert(place, end)
    return told


def pieces(rule):
    rising = edges(rule)
    return [(a, b, run_over(rule, a, b)) for a, b in zip(rising, rising[1:])]


def is_within(one, other):
    for inner, outer in zip(one[1], other[1]):
        if under(inner[0], outer[0]) or under(outer[1], inner[1]):
            return False
    return True
