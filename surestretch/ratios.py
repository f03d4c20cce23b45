"""Fractions: tuples (top, bottom) of whole numbers in lowest terms, bottom from 1 on."""

from surestretch.errors import NoNumber


def is_whole(thing):
    # Python counts True and False among its ints; here they are no whole numbers.
    return isinstance(thing, int) and not isinstance(thing, bool)


def is_share(thing):
    if not is_whole_pair(thing):
        return False
    top = thing[0]
    bottom = thing[1]
    return bottom >= 1 and 0 <= top <= bottom and common_divisor(top, bottom) == 1


def is_whole_pair(thing):
    return isinstance(thing, tuple) and len(thing) == 2 and is_whole(thing[0]) and is_whole(thing[1])


def common_divisor(one, other):
    # Both from 0 on: of two such numbers the rest is never below 0, so the walk ends at the greatest.
    while other != 0:
        rest = one % other
        one = other
        other = rest
    return one


def fraction(top, bottom):
    if not is_whole(top) or not is_whole(bottom):
        raise NoNumber("a fraction is made of two whole numbers")
    if bottom == 0:
        raise NoNumber("nothing stands over 0")
    divisor = common_divisor(abs(top), abs(bottom))
    # A divisor below 0 turns both signs, so that the bottom comes out from 1 on.
    if bottom < 0:
        divisor = -divisor
    return (top // divisor, bottom // divisor)


def plus(one, other):
    return fraction(one[0] * other[1] + other[0] * one[1], one[1] * other[1])


def minus(one, other):
    return fraction(one[0] * other[1] - other[0] * one[1], one[1] * other[1])


def times(one, other):
    return fraction(one[0] * other[0], one[1] * other[1])


def over(one, other):
    # Where the other is 0 the new bottom is 0, which fraction refuses.
    return fraction(one[0] * other[1], one[1] * other[0])


def under(one, other):
    # Bottoms are from 1 on, so multiplying both sides by them keeps the order.
    return one[0] * other[1] < other[0] * one[1]
