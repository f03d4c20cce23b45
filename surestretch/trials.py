"""Trials that are won with a true share: the weights of their outcomes."""

from surestretch.choose import choices
from surestretch.ratios import fraction


def power(base, count):
    product = 1
    for turn in range(count):
        product = product * base
    return product


def weight_top(n, k, p):
    # All weights of n trials stand over the share's bottom taken n times, so their tops alone can be summed.
    return choices(n, k) * power(p[0], k) * power(p[1] - p[0], n - k)


def weight(n, k, p):
    return fraction(weight_top(n, k, p), power(p[1], n))


def run_sum(n, i, j, p):
    tops = [weight_top(n, k, p) for k in range(i, j + 1)]
    return fraction(sum(tops), power(p[1], n))
