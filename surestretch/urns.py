"""Draws that aren't put back: count rules, tuples (N, n, stretches) with a stretch of counts for each outcome."""

from surestretch.choose import choices
from surestretch.errors import NoRule, NotSure
from surestretch.makers import half_of_what_is_left, made_tight, with_end
from surestretch.ratios import fraction, is_whole, under
from surestretch.rules import is_row_of


def urn_weight(N, T, n, k):
    return weights_together(N, T, n, [k])


def weights_together(N, T, n, outcomes):
    ways = [choices(T, k) * choices(N - T, n - k) for k in outcomes]
    return fraction(sum(ways), choices(N, n))


def count_rule(N, n, stretches):
    if not is_whole(N) or N < 1 or N > 30:
        raise NoRule("a count rule is of 1 to 30 things")
    if not is_whole(n) or n < 1 or n > 10 or n > N:
        raise NoRule("1 to 10 things are drawn, and no more than there are")
    if not is_row_of(stretches, n + 1):
        raise NoRule("a count rule has one stretch for each outcome")
    kept = tuple([counts_of(stretch, N) for stretch in stretches])
    for ahead, behind in zip(kept, kept[1:]):
        if behind[0] < ahead[0] or behind[1] < ahead[1]:
            raise NoRule("no low and no high is less than that ahead of it")
    return (N, n, kept)


def counts_of(thing, N):
    if not is_row_of(thing, 2):
        raise NoRule("a stretch is a low and a high")
    low = thing[0]
    high = thing[1]
    if not is_whole(low) or not is_whole(high):
        raise NoRule("a low and a high are whole numbers")
    if not 0 <= low <= high <= N:
        raise NoRule("a low and a high are from 0 to N, and no low is greater than its high")
    return (low, high)


def urn_cover(rule, T):
    having = [k for k, stretch in enumerate(rule[2]) if stretch[0] <= T <= stretch[1]]
    return weights_together(rule[0], T, rule[1], having)


def urn_least(rule):
    found = None
    for T in range(rule[0] + 1):
        covered = urn_cover(rule, T)
        if found is None or under(covered, found[0]):
            found = (covered, T)
    return found


def urn_tails(N, n, share):
    most = half_of_what_is_left(share)
    return (N, n, tuple([tails_counts(N, n, k, most) for k in range(n + 1)]))


def tails_counts(N, n, k, most):
    # As T rises the sum from k on never falls and that to k never rises, so what is had is a run.
    had = [T for T in range(N + 1) if is_had(N, T, n, k, most)]
    return (had[0], had[-1])


def is_had(N, T, n, k, most):
    upper = weights_together(N, T, n, list(range(k, n + 1)))
    lower = weights_together(N, T, n, list(range(k + 1)))
    return under(most, upper) and under(most, lower)


def urn_tight(rule, share):
    for T in range(rule[0] + 1):
        if under(urn_cover(rule, T), share):
            raise NotSure(T)
    return made_tight(rule, rule[1], lambda kept, k, end: sure_when_shorter(kept, k, end, share))


def sure_when_shorter(rule, k, end, share):
    lost = rule[2][k][0] if end == "low" else rule[2][k][1]
    value = lost + 1 if end == "low" else lost - 1
    try:
        shorter = count_rule(rule[0], rule[1], with_end(rule[2], k, end, value))
    except NoRule:
        return None
    # One count is lost: at all others the cover is what it was.
    if under(urn_cover(shorter, lost), share):
        return None
    return shorter
