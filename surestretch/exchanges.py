"""Two groups whose values might as well have been exchanged."""

from surestretch.ratios import fraction, under


def sums(one, other):
    counts = counts_by_sum(list(one) + list(other), len(one))
    return [(total, counts[total]) for total in sorted(counts)]


def counts_by_sum(values, size):
    # Of the values gone through, for each number of them chosen: how many choices have which sum.
    chosen = [{0: 1}] + [{} for taken in range(size)]
    for value in values:
        chosen = [chosen[0]] + [with_value(chosen[taken], chosen[taken - 1], value) for taken in range(1, size + 1)]
    return chosen[size]


def with_value(without, fewer, value):
    # As many are chosen without this value, or with it, where one fewer was chosen of the others.
    counts = dict(without)
    for total, count in fewer.items():
        counts[total + value] = counts.get(total + value, 0) + count
    return counts


def shares(one, other):
    own = sum(one)
    found = sums(one, other)
    every = sum([count for total, count in found])
    up = sum([count for total, count in found if total >= own])
    down = sum([count for total, count in found if total <= own])
    return (fraction(up, every), fraction(down, every))


def shift(one, other, share):
    if not is_enough(one, other, share, 1000):
        return None
    # As d rises up never rises, so what is left between too little and enough may be halved.
    too_little = -1
    enough = 1000
    while enough - too_little > 1:
        middle = (too_little + enough) // 2
        if is_enough(one, other, share, middle):
            enough = middle
        else:
            too_little = middle
    return enough


def is_enough(one, other, share, d):
    shifted = [value + d for value in one]
    return not under(share, shares(shifted, other)[0])
