"""How sure a rule is: its least cover, and a true share at which it isn't sure to what was asked."""

from surestretch.ratios import fraction, minus, plus, under
from surestretch.rules import cover, pieces, sum_of_run
from surestretch.trials import power


def least(rule):
    place = least_place(rule)
    return (place[0], place[1], place[2])


def least_place(rule):
    found = None
    for a, b, run in pieces(rule):
        for at, side, far in ((a, "above", b), (b, "below", a)):
            total = sum_of_run(rule[0], run, at)
            if found is None or under(total, found[0]):
                found = (total, at, side, far)
    return found


def sure(rule, share):
    place = least_place(rule)
    if not under(place[0], share):
        return ("sure", place[0])
    p = share_lacking(rule, share, place[1], place[3])
    return ("not", p, cover(rule, p))


def share_lacking(rule, share, at, far):
    # At d away from at, within the piece, the cover is greater than the least by at most n times d: some halving
    # of the piece is enough. The fewest are sought, as the cover's bottom is that of the true share taken n times,
    # and the nearer this is to at, the more figures it has.
    too_few = -1
    enough = 0
    while not lacks(rule, share, share_beside(at, far, enough)):
        too_few = enough
        enough = 2 * enough + 1
    while enough - too_few > 1:
        middle = (too_few + enough) // 2
        if lacks(rule, share, share_beside(at, far, middle)):
            enough = middle
        else:
            too_few = middle
    return share_beside(at, far, enough)


def lacks(rule, share, p):
    return under(cover(rule, p), share)


def share_beside(at, far, halvings):
    # What lies between at and far, halved so many times: of all shares strictly within it the simplest.
    apart = minus(far, at)
    reached = plus(at, fraction(apart[0], apart[1] * power(2, halvings)))
    if under(at, reached):
        return simplest_between(at, reached)
    return simplest_between(reached, at)


def simplest_between(low, high):
    # The simplest number between two is a whole one, if one is there. Else both have the same whole part, and
    # what is over of them, turned over, is asked the same; tops and bottoms follow as in a continued fraction.
    before = (0, 1)
    last = (1, 0)
    whole = low[0] // low[1]
    while (whole + 1) * high[1] >= high[0]:
        added = with_term(whole, last, before)
        before = last
        last = added
        turned = (high[1], high[0] - whole * high[1])
        # Where nothing is over of the low, a bottom of 0 stands for a high above all numbers.
        high = (low[1], low[0] - whole * low[1])
        low = turned
        whole = low[0] // low[1]
    return with_term(whole + 1, last, before)


def with_term(term, last, before):
    return (term * last[0] + before[0], term * last[1] + before[1])
