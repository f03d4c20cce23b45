"""Spent plans: a chance to end high wrongly, given out bit by bit as the trials go on."""

from surestretch.early import row_top, with_trial
from surestretch.trials import power


def spent(n, p, e):
    bounds = []
    going = [1]
    # Chances stand here by their tops alone, over the share's bottom taken n times.
    every = power(p[1], n)
    gone = 0
    for t in range(1, n + 1):
        ways = with_trial(going)
        tops = [ways[k] * row_top(n, t, k, p) for k in range(t + 1)]
        # A whole number is at most a fraction where it is at most the fraction's whole part.
        most = every * e[0] * t // (e[1] * n)
        high = least_high(tops, most - gone)
        gone = gone + sum(tops[high:])
        going = [ways[k] if k < high else 0 for k in range(t + 1)]
        bounds.append((-1 if t < n else high - 1, high))
    return (n, tuple(bounds))


def least_high(tops, left):
    # With no wins ended nothing is spent; each step down ends one number of wins more, and gives nothing back.
    high = len(tops)
    while high > 0 and tops[high - 1] <= left:
        high = high - 1
        left = left - tops[high]
    return high
