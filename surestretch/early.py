"""Plans: tuples (n, bounds), by which trials gone through one by one are ended early, low or high."""

from surestretch.errors import NoPlan
from surestretch.ratios import fraction, is_whole
from surestretch.rules import is_row_of
from surestretch.trials import power


def plan_of(n, bounds):
    if not is_whole(n) or n < 1 or n > 12:
        raise NoPlan("a plan is of 1 to 12 trials")
    if not is_row_of(bounds, n):
        raise NoPlan("a plan has one pair for each number of trials")
    kept = tuple([bound_of(bound, t) for t, bound in enumerate(bounds, start=1)])
    if kept[-1][1] != kept[-1][0] + 1:
        raise NoPlan("behind the last trial all is ended, so its high is its low and 1")
    return (n, kept)


def bound_of(thing, t):
    if not is_row_of(thing, 2):
        raise NoPlan("a pair is a low and a high")
    low = thing[0]
    high = thing[1]
    if not is_whole(low) or not is_whole(high):
        raise NoPlan("a low and a high are whole numbers")
    if not -1 <= low < high <= t + 1:
        raise NoPlan("a low is from -1 on and less than its high, which is no more than the trials and 1")
    return (low, high)


def word_of(bound, k):
    if k <= bound[0]:
        return "low"
    if k >= bound[1]:
        return "high"
    return None


def ends(plan):
    found = []
    # How many rows aren't ended yet, by how many of their trials were won.
    going = [1]
    for t, bound in enumerate(plan[1], start=1):
        ways = with_trial(going)
        words = [word_of(bound, k) for k in range(t + 1)]
        found.extend([(t, k, words[k], ways[k]) for k in range(t + 1) if words[k] is not None and ways[k] > 0])
        going = [ways[k] if words[k] is None else 0 for k in range(t + 1)]
    return found


def with_trial(going):
    # Each row goes on to one more that is lost, its wins what they were, and to one that is won.
    return [lost + won for lost, won in zip(going + [0], [0] + going)]


def run_through(plan, row):
    t = 0
    k = 0
    for won, bound in zip(row, plan[1]):
        t = t + 1
        if won:
            k = k + 1
        word = word_of(bound, k)
        if word is not None:
            return (t, k, word)
    return None


def row_top(n, t, k, p):
    # What a row of t trials weighs, over the share's bottom taken n times: so rows of all lengths can be summed.
    return power(p[0], k) * power(p[1] - p[0], t - k) * power(p[1], n - t)


def chance(plan, word, p):
    n = plan[0]
    tops = [ways * row_top(n, t, k, p) for t, k, told, ways in ends(plan) if told == word]
    return fraction(sum(tops), power(p[1], n))


def mean(plan, p):
    n = plan[0]
    tops = [t * ways * row_top(n, t, k, p) for t, k, word, ways in ends(plan)]
    return fraction(sum(tops), power(p[1], n))


def errors_of(plan, one, other):
    return (chance(plan, "high", one), chance(plan, "low", other))
