import inspect
import unittest
from fractions import Fraction
from itertools import combinations, product
from math import comb
from random import Random

from surestretch import exchanges
from surestretch.exchanges import shares, shift, sums
from test_ratios import GREATEST, ODD_SIXTY, SIXTY, Checks, as_told
from test_rules import HALF, ONE, ZERO

LENGTHS = [(first, second) for first in range(1, 10) for second in range(1, 11 - first)]


def scattered_groups():
    source = Random(22)
    told = []
    for first, second in LENGTHS:
        for values in (range(-2, 3), range(-500, 501), range(7, 9), (-GREATEST, -SIXTY, 0, ODD_SIXTY, GREATEST)):
            told.append(([source.choice(values) for place in range(first)],
                         [source.choice(values) for place in range(second)]))
    return told


# Groups of values alike, of all values told apart by their sums, and of such as lie far from one another.
GROUPS = scattered_groups() + [([5] * first, [5] * second) for first, second in LENGTHS[::4]] + [
    ([2 ** k for k in range(5)], [2 ** k for k in range(5, 10)]), ([0], [0]), ([0] * 9, [0]), ([1], [0] * 9),
    ([-GREATEST] * 3, [GREATEST] * 4), ([GREATEST, -GREATEST], [1, -1, 0]), ([3, 1, 2], [1, 2, 3]), ([-1], [1])]


def exchanges_of(one, other):
    """The sums of all exchanges, one by one."""
    return [sum(chosen) for chosen in combinations(one + other, len(one))]


def groups_of_exchanges(one, other):
    values = one + other
    for chosen in combinations(range(len(values)), len(one)):
        yield ([values[place] for place in chosen],
               [value for place, value in enumerate(values) if place not in chosen])


def up_by_count(one, other):
    found = exchanges_of(one, other)
    return Fraction(len([total for total in found if total >= sum(one)]), len(found))


def down_by_count(one, other):
    found = exchanges_of(one, other)
    return Fraction(len([total for total in found if total <= sum(one)]), len(found))


def shift_by_count(one, other, share):
    """Goes up one by one, and stops where it can go no further than 1000."""
    for d in range(1001):
        if up_by_count([value + d for value in one], other) <= share:
            return d
    return None


class Sums(unittest.TestCase):
    def test_some_by_hand(self):
        self.assertEqual(sums([1], [2]), [(1, 1), (2, 1)])
        self.assertEqual(sums([2], [1]), [(1, 1), (2, 1)])
        self.assertEqual(sums([1, 2], [3]), [(3, 1), (4, 1), (5, 1)])
        self.assertEqual(sums([1, 4], [2, 3]), [(3, 1), (4, 1), (5, 2), (6, 1), (7, 1)])
        self.assertEqual(sums([0], [-1, 1]), [(-1, 1), (0, 1), (1, 1)])

    def test_values_alike_are_told_apart(self):
        self.assertEqual(sums([1], [1]), [(1, 2)])
        self.assertEqual(sums([1, 1], [1, 2]), [(2, 3), (3, 3)])
        for first, second in LENGTHS:
            self.assertEqual(sums([-7] * first, [-7] * second), [(-7 * first, comb(first + second, first))])

    def test_all_exchanges_counted(self):
        for one, other in GROUPS:
            with self.subTest(one=one, other=other):
                told = sums(one, other)
                found = exchanges_of(one, other)
                self.assertEqual(told, [(total, found.count(total)) for total in sorted(set(found))])
                self.assertIs(type(told), list)
                self.assertEqual({tuple(map(type, (pair,) + pair)) for pair in told}, {(tuple, int, int)})

    def test_all_small_groups(self):
        for first, second in ((1, 1), (1, 2), (2, 1), (2, 2)):
            for values in product((-1, 0, 2), repeat=first + second):
                one, other = list(values[:first]), list(values[first:])
                found = exchanges_of(one, other)
                self.assertEqual(sums(one, other), [(total, found.count(total)) for total in sorted(set(found))])

    def test_each_sum_once_and_all_counts_come_to_all_exchanges(self):
        for one, other in GROUPS:
            with self.subTest(one=one, other=other):
                told = sums(one, other)
                totals = [total for total, count in told]
                self.assertTrue(all(lesser < greater for lesser, greater in zip(totals, totals[1:])))
                self.assertTrue(all(count >= 1 for total, count in told))
                self.assertEqual(sum(count for total, count in told), comb(len(one) + len(other), len(one)))

    def test_as_many_sums_as_there_can_be(self):
        self.assertEqual(len(sums([2 ** k for k in range(5)], [2 ** k for k in range(5, 10)])), 252)

    def test_somewhat_beyond_nothing_is_refused(self):
        one, other = [3, -1, 4, 1, -5, 9], [2, 6, -5, 3, 5, 8]
        found = exchanges_of(one, other)
        self.assertEqual(sums(one, other), [(total, found.count(total)) for total in sorted(set(found))])
        self.assertEqual(shares(one, other)[0], as_told(up_by_count(one, other)))

    def test_the_list_told_is_new_and_the_askers_own(self):
        for one, other in GROUPS[::9]:
            first = sums(one, other)
            kept = list(first)
            first.reverse()
            first.append(None)
            second = sums(one, other)
            self.assertEqual(second, kept)
            second.clear()
            third = sums(one, other)
            sums([1, 2], [3])
            self.assertEqual(third, kept)

    def test_what_is_handed_in_is_not_changed(self):
        one, other = [3, 1, 2], [5, 4]
        for ask in (sums, shares, lambda first, second: shift(first, second, HALF)):
            ask(one, other)
            self.assertEqual((one, other), ([3, 1, 2], [5, 4]))
        told = sums(one, other)
        one.append(7)
        other.clear()
        self.assertEqual(told, [(6, 1), (7, 1), (8, 2), (9, 2), (10, 2), (11, 1), (12, 1)])

    def test_a_group_with_itself(self):
        group = [1, 2, 4]
        self.assertEqual(sums(group, group), sums([1, 2, 4], [1, 2, 4]))
        self.assertEqual(group, [1, 2, 4])


class Shares(Checks):
    def test_some_by_hand(self):
        self.assertEqual(shares([2], [1]), (HALF, ONE))
        self.assertEqual(shares([1], [2]), (ONE, HALF))
        self.assertEqual(shares([1], [1]), (ONE, ONE))
        self.assertEqual(shares([1, 4], [2, 3]), ((2, 3), (2, 3)))
        self.assertEqual(shares([8, 9, 7], [1, 2, 3]), ((1, 20), ONE))
        self.assertEqual(shares([1, 2, 3], [8, 9, 7]), (ONE, (1, 20)))

    def test_counted_over_all_exchanges(self):
        for one, other in GROUPS:
            with self.subTest(one=one, other=other):
                told = shares(one, other)
                self.assertEqual((type(told), len(told)), (tuple, 2))
                self.check_fraction(told[0], up_by_count(one, other))
                self.check_fraction(told[1], down_by_count(one, other))

    def test_together_1_and_those_with_just_this_sum(self):
        for one, other in GROUPS:
            with self.subTest(one=one, other=other):
                found = exchanges_of(one, other)
                up, down = shares(one, other)
                self.assertEqual(Fraction(*up) + Fraction(*down), 1 + Fraction(found.count(sum(one)), len(found)))

    def test_the_groups_exchanged(self):
        for one, other in GROUPS:
            with self.subTest(one=one, other=other):
                self.assertEqual(shares(other, one), shares(one, other)[::-1])

    def test_no_more_than_s_of_all_exchanges_have_an_up_of_at_most_s(self):
        for one, other in GROUPS[::3]:
            with self.subTest(one=one, other=other):
                ups = [Fraction(*shares(*groups)[0]) for groups in groups_of_exchanges(one, other)]
                # Between two neighbouring ups the count stays while s rises, so the ups themselves are enough.
                for s in set(ups):
                    self.assertLessEqual(len([up for up in ups if up <= s]), s * len(ups))

    def test_asked_again_they_tell_the_same(self):
        first = [shares(one, other) for one, other in GROUPS]
        self.assertEqual([shares(one, other) for one, other in reversed(GROUPS)], first[::-1])


class Shift(unittest.TestCase):
    def check_shift(self, one, other, share):
        with self.subTest(one=one, other=other, share=share):
            kept = (list(one), list(other))
            told = shift(one, other, as_told(share))
            self.assertEqual((one, other), kept)
            if told is None:
                self.assertGreater(up_by_count([value + 1000 for value in one], other), share)
            else:
                self.assertIs(type(told), int)
                self.assertIn(told, range(1001))
                self.assertLessEqual(up_by_count([value + told for value in one], other), share)
                if told > 0:
                    self.assertGreater(up_by_count([value + told - 1 for value in one], other), share)
            return told

    def test_some_by_hand(self):
        self.assertEqual(shift([1], [5], HALF), 5)
        self.assertEqual(shift([5], [1], HALF), 0)
        self.assertEqual(shift([1], [1], HALF), 1)
        self.assertEqual(shift([1], [5], ONE), 0)
        self.assertIsNone(shift([1], [5], (49, 100)))
        self.assertEqual(shift([1, 2], [3, 4], (1, 6)), 4)
        self.assertEqual(shift([-9], [-5], HALF), 5)

    def test_just_1000_and_one_more(self):
        self.assertEqual(shift([0], [999], HALF), 1000)
        self.assertEqual(shift([0], [998], HALF), 999)
        self.assertIsNone(shift([0], [1000], HALF))
        self.assertIsNone(shift([-GREATEST], [GREATEST], HALF))
        self.assertEqual(shift([-GREATEST], [GREATEST], ONE), 0)
        self.assertEqual(shift([GREATEST - 999], [GREATEST], HALF), 1000)
        self.assertIsNone(shift([GREATEST - 1000], [GREATEST], HALF))

    def test_every_shift(self):
        for d in range(1, 1001):
            self.assertEqual(shift([7], [6 + d], HALF), d)

    def test_gone_through_one_by_one(self):
        for one, other in GROUPS:
            if len(one) + len(other) < 7 and max(map(abs, one + other)) < 10:
                for share in (Fraction(1, 20), Fraction(1, 3), Fraction(1, 2)):
                    every = comb(len(one) + len(other), len(one))
                    # None is told just where even the least up there can be is more.
                    awaited = shift_by_count(one, other, share) if share >= Fraction(1, every) else None
                    self.assertEqual(self.check_shift(one, other, share), awaited)

    def test_at_the_shift_and_at_the_one_before_it(self):
        for one, other in GROUPS:
            every = comb(len(one) + len(other), len(one))
            for share in (Fraction(1, every), Fraction(1, 20), Fraction(1, 2), Fraction(GREATEST - 1, GREATEST)):
                self.check_shift(one, other, share)

    def test_a_hair_less_than_the_least_up_is_come_to_by_none(self):
        for one, other in GROUPS[::5]:
            every = comb(len(one) + len(other), len(one))
            self.assertIsNone(self.check_shift(one, other, Fraction(1, every) - Fraction(1, GREATEST)))
            self.assertIsNone(shift(one, other, (1, GREATEST)))

    def test_at_a_share_of_1_nothing_is_put_to_them(self):
        for one, other in GROUPS:
            self.assertEqual(shift(one, other, ONE), 0)

    def test_what_shares_tells_may_be_asked_of(self):
        for one, other in GROUPS[::2]:
            self.assertEqual(shift(one, other, shares(one, other)[0]), 0)

    def test_a_share_of_0_somewhat_beyond(self):
        self.assertIsNone(shift([1], [5], ZERO))

    def test_asked_again_it_tells_the_same(self):
        first = [shift(one, other, (1, 3)) for one, other in GROUPS]
        self.assertEqual([shift(one, other, (1, 3)) for one, other in reversed(GROUPS)], first[::-1])


class Interface(unittest.TestCase):
    def test_the_names_of_the_arguments(self):
        for name, parameters in (("sums", ["one", "other"]), ("shares", ["one", "other"]),
                                 ("shift", ["one", "other", "share"])):
            self.assertEqual(list(inspect.signature(getattr(exchanges, name)).parameters), parameters)


if __name__ == "__main__":
    unittest.main()
