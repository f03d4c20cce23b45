"""Rules made: by tails, with an end moved inwards, made tight; and how long their stretches are together."""

from surestretch.covers import least, sure
from surestretch.errors import NoRule, NotSure, TooMuch
from surestretch.ratios import fraction, minus, plus, under
from surestretch.rules import rule_of
from surestretch.trials import run_sum


def tails(n, share, measure):
    most = half_of_what_is_left(share)
    steps = [fraction(k, measure) for k in range(measure + 1)]
    return (n, tuple([(tails_low(n, k, most, steps), tails_high(n, k, most, steps)) for k in range(n + 1)]))


def half_of_what_is_left(share):
    return fraction(share[1] - share[0], 2 * share[1])


def tails_low(n, k, most, steps):
    for step in reversed(steps):
        if not under(most, run_sum(n, k, n, step)):
            return step
    return (0, 1)


def tails_high(n, k, most, steps):
    for step in steps:
        if not under(most, run_sum(n, 0, k, step)):
            return step
    return (1, 1)


def moved(rule, k, end, measure):
    stretch = rule[1][k]
    step = fraction(1, measure)
    value = plus(stretch[0], step) if end == "low" else minus(stretch[1], step)
    try:
        return rule_of(rule[0], with_end(rule[1], k, end, value))
    except NoRule:
        return None


def with_end(stretches, k, end, value):
    stretch = stretches[k]
    changed = (value, stretch[1]) if end == "low" else (stretch[0], value)
    return stretches[:k] + (changed,) + stretches[k + 1:]


def tight(rule, share, measure):
    if rule[0] > 6 or measure > 20:
        raise TooMuch("a rule is made tight for 6 trials and a measure of 20 at most")
    told = sure(rule, share)
    if told[0] == "not":
        raise NotSure(told[1])
    return made_tight(rule, rule[0], lambda kept, k, end: sure_when_moved(kept, k, end, share, measure))


def sure_when_moved(rule, k, end, share, measure):
    shorter = moved(rule, k, end, measure)
    if shorter is None or under(least(shorter)[0], share):
        return None
    return shorter


def made_tight(rule, n, move):
    # Once is enough: an end is stopped by a neighbour's that has been gone through, by its own stretch's other end,
    # or by a cover, which is never greater when other ends have moved inwards. So nothing frees it later.
    ends = [(k, "high") for k in range(n + 1)] + [(k, "low") for k in range(n, -1, -1)]
    for k, end in ends:
        shorter = move(rule, k, end)
        while shorter is not None:
            rule = shorter
            shorter = move(rule, k, end)
    return rule


def span(rule):
    total = (0, 1)
    for low, high in rule[1]:
        total = plus(total, minus(high, low))
    return total
