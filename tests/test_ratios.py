import inspect
import unittest
from fractions import Fraction
from math import gcd

from surestretch import ratios
from surestretch.errors import NoNumber
from surestretch.ratios import fraction, is_share, is_whole, minus, over, plus, times, under

# The greatest number of sixty figures, and two others of as many.
GREATEST = 10 ** 60 - 1
SIXTY = 10 ** 59
ODD_SIXTY = 123456789012345678901234567890123456789012345678901234567891

NO_WHOLES = (True, False, None, "", "1", "one", b"1", 1.0, 0.5, float("nan"), 1j, [], [1], (), (1,), {}, {1: 1},
             {1}, Fraction(1), object(), int, len)

SMALL = [(top, bottom) for bottom in range(1, 8) for top in range(-9, 10) if gcd(top, bottom) == 1]
LARGE = [(GREATEST, 1), (-GREATEST, 1), (1, GREATEST), (-1, GREATEST), (SIXTY, GREATEST), (-SIXTY, GREATEST),
         (GREATEST, SIXTY), (GREATEST - 1, GREATEST), (GREATEST - 2, GREATEST - 1), (ODD_SIXTY, SIXTY), (0, 1)]
# Bottoms with much in common: what comes out often has a lesser one.
AKIN = [(1, 720), (7, 720), (1, 360), (-1, 360), (11, 1440), (-719, 720), (1, 3 ** 100), (2, 3 ** 99), (5, 2 ** 190)]


def as_told(value):
    return (value.numerator, value.denominator)


class Checks(unittest.TestCase):
    def check_fraction(self, told, value):
        self.assertIs(type(told), tuple)
        self.assertEqual([type(part) for part in told], [int, int])
        self.assertEqual(told, as_told(value))


class Wholes(unittest.TestCase):
    def test_whole_numbers(self):
        for thing in (0, 1, -1, 7, -12, GREATEST, -GREATEST):
            with self.subTest(thing):
                self.assertIs(is_whole(thing), True)

    def test_what_is_none(self):
        for thing in NO_WHOLES:
            with self.subTest(repr(thing)):
                self.assertIs(is_whole(thing), False)


class Shares(unittest.TestCase):
    def test_shares(self):
        for thing in ((0, 1), (1, 1), (1, 2), (2, 3), (5, 12), (1, GREATEST), (GREATEST - 1, GREATEST),
                      (SIXTY, GREATEST)):
            with self.subTest(thing):
                self.assertIs(is_share(thing), True)

    def test_all_small_pairs(self):
        for top in range(-8, 9):
            for bottom in range(-8, 9):
                awaited = bottom >= 1 and 0 <= top <= bottom and gcd(top, bottom) == 1
                with self.subTest(top=top, bottom=bottom):
                    self.assertIs(is_share((top, bottom)), awaited)

    def test_what_is_not_in_lowest_terms(self):
        for thing in ((2, 2), (0, 2), (0, 5), (2, 4), (6, 9), (GREATEST, GREATEST), (0, GREATEST),
                      (9, GREATEST), (SIXTY, 10 * SIXTY)):
            with self.subTest(thing):
                self.assertIs(is_share(thing), False)

    def test_below_0_and_above_1(self):
        for thing in ((-1, 2), (-1, 1), (-1, GREATEST), (2, 1), (3, 2), (GREATEST, GREATEST - 1), (-GREATEST, 1)):
            with self.subTest(thing):
                self.assertIs(is_share(thing), False)

    def test_bottoms_of_0_and_below(self):
        for thing in ((0, 0), (1, 0), (-1, 0), (0, -1), (1, -2), (-1, -2), (-1, -1), (1, -1)):
            with self.subTest(thing):
                self.assertIs(is_share(thing), False)

    def test_other_lengths(self):
        for thing in ((), (1,), (0,), (1, 2, 3), (1, 2, 1), (0, 1, None), (0, 1, 0, 1), ((0, 1),), ((0, 1), (1, 1))):
            with self.subTest(thing):
                self.assertIs(is_share(thing), False)

    def test_a_part_that_is_no_whole_number(self):
        for part in NO_WHOLES:
            for thing in ((part, 1), (part, 2), (0, part), (1, part), (part, part)):
                with self.subTest(repr(thing)):
                    self.assertIs(is_share(thing), False)

    def test_what_is_no_tuple(self):
        for thing in NO_WHOLES + (0, 1, -1, GREATEST, [0, 1], [1, 2], "01", "1/2", {0: 1}, {0, 1}, range(2)):
            with self.subTest(repr(thing)):
                self.assertIs(is_share(thing), False)

    def test_what_is_asked_of_is_not_changed(self):
        asked = [1, 2]
        part = [2]
        is_whole(asked)
        is_share(asked)
        is_share((1, part))
        self.assertEqual((asked, part), ([1, 2], [2]))


class Made(Checks):
    def test_either_sign_in_either_place(self):
        self.assertEqual(fraction(2, 3), (2, 3))
        self.assertEqual(fraction(-2, 3), (-2, 3))
        self.assertEqual(fraction(2, -3), (-2, 3))
        self.assertEqual(fraction(-2, -3), (2, 3))

    def test_all_small_ones(self):
        for top in range(-24, 25):
            for bottom in range(-24, 25):
                if bottom != 0:
                    with self.subTest(top=top, bottom=bottom):
                        self.check_fraction(fraction(top, bottom), Fraction(top, bottom))

    def test_a_top_of_0(self):
        for bottom in (1, -1, 2, -7, 60, GREATEST, -GREATEST):
            with self.subTest(bottom):
                self.check_fraction(fraction(0, bottom), Fraction(0))

    def test_much_in_common(self):
        much = 2 ** 60 * 3 ** 40 * 5 ** 20
        for top, bottom in ((1, 1), (2, 3), (7, 1), (1, 7), (-7, 11), (11, -7), (-1, -1)):
            with self.subTest(top=top, bottom=bottom):
                self.check_fraction(fraction(top * much, bottom * much), Fraction(top, bottom))

    def test_sixty_figures(self):
        numbers = (GREATEST, GREATEST - 1, SIXTY, SIXTY + 1, ODD_SIXTY, 9, 1)
        for one in numbers:
            for other in numbers:
                for top, bottom in ((one, other), (-one, other), (one, -other), (-one, -other)):
                    with self.subTest(top=top, bottom=bottom):
                        self.check_fraction(fraction(top, bottom), Fraction(top, bottom))

    def test_a_bottom_of_0_is_refused(self):
        for top in (0, 1, -1, 7, GREATEST, -GREATEST):
            with self.subTest(top), self.assertRaises(NoNumber):
                fraction(top, 0)

    def test_what_is_no_whole_number_is_refused(self):
        for thing in NO_WHOLES + ((1, 2), [1, 2]):
            for top, bottom in ((thing, 1), (1, thing), (0, thing), (thing, 0), (thing, thing)):
                with self.subTest(top=repr(top), bottom=repr(bottom)), self.assertRaises(NoNumber):
                    fraction(top, bottom)

    def test_what_is_refused_is_not_changed(self):
        thing = [3]
        with self.assertRaises(NoNumber):
            fraction(thing, 1)
        with self.assertRaises(NoNumber):
            fraction(1, thing)
        self.assertEqual(thing, [3])


class Reckoned(Checks):
    def check_pair(self, one, other):
        left = Fraction(*one)
        right = Fraction(*other)
        with self.subTest(one=one, other=other):
            self.check_fraction(plus(one, other), left + right)
            self.check_fraction(minus(one, other), left - right)
            self.check_fraction(times(one, other), left * right)
            self.assertIs(under(one, other), left < right)
            if other[0] == 0:
                self.assertRaises(NoNumber, over, one, other)
            else:
                self.check_fraction(over(one, other), left / right)

    def check_all_pairs(self, pool):
        for one in pool:
            for other in pool:
                self.check_pair(one, other)

    def test_small_ones(self):
        self.check_all_pairs(SMALL)

    def test_sixty_figures(self):
        self.check_all_pairs(LARGE)

    def test_bottoms_with_much_in_common(self):
        self.check_all_pairs(AKIN)

    def test_some_by_hand(self):
        self.assertEqual(plus((1, 6), (1, 3)), (1, 2))
        self.assertEqual(plus((1, 2), (-1, 2)), (0, 1))
        self.assertEqual(minus((1, 6), (1, 2)), (-1, 3))
        self.assertEqual(times((2, 3), (-3, 4)), (-1, 2))
        self.assertEqual(over((1, 2), (-3, 4)), (-2, 3))
        self.assertEqual(over((0, 1), (-3, 4)), (0, 1))

    def test_alike(self):
        for one in SMALL + LARGE + AKIN:
            with self.subTest(one):
                self.assertEqual(minus(one, one), (0, 1))
                self.assertIs(under(one, one), False)
                if one[0] != 0:
                    self.assertEqual(over(one, one), (1, 1))

    def test_two_that_lie_next_to_one_another(self):
        pairs = (((GREATEST - 2, GREATEST - 1), (GREATEST - 1, GREATEST)), ((1, GREATEST), (1, GREATEST - 1)),
                 ((-1, GREATEST - 1), (-1, GREATEST)), ((0, 1), (1, GREATEST)), ((-1, GREATEST), (0, 1)),
                 ((GREATEST - 1, GREATEST), (1, 1)))
        for lesser, greater in pairs:
            with self.subTest(lesser=lesser, greater=greater):
                self.assertIs(under(lesser, greater), True)
                self.assertIs(under(greater, lesser), False)
                self.check_pair(lesser, greater)
                self.check_pair(greater, lesser)

    def test_over_0_is_refused(self):
        for one in ((0, 1), (1, 1), (-1, 1), (1, 2), (-7, 3), (GREATEST, 1), (1, GREATEST)):
            with self.subTest(one), self.assertRaises(NoNumber):
                over(one, (0, 1))

    def test_what_is_told_may_be_handed_on(self):
        total = (0, 1)
        product = (1, 1)
        value = Fraction(0)
        for number in range(40):
            part = (SIXTY + number, GREATEST - 2 * number - 1)
            total = plus(total, fraction(*part))
            product = times(product, fraction(*part))
            value += Fraction(*part)
        self.check_fraction(total, value)
        self.assertGreater(len(str(total[1])), 1000)
        self.assertEqual(over(product, product), (1, 1))

    def test_the_same_asked_again_is_told_the_same(self):
        one, other = (5, 6), (-3, 4)
        for ask in (plus, minus, times, over, under):
            first = ask(one, other)
            ask(other, one)
            self.assertEqual(ask(one, other), first)
        self.assertEqual((one, other), ((5, 6), (-3, 4)))


class Interface(unittest.TestCase):
    def test_the_names_of_the_arguments(self):
        awaited = {"is_whole": ["thing"], "is_share": ["thing"], "fraction": ["top", "bottom"]}
        for name in ("plus", "minus", "times", "over", "under"):
            awaited[name] = ["one", "other"]
        for name, parameters in awaited.items():
            with self.subTest(name):
                self.assertEqual(list(inspect.signature(getattr(ratios, name)).parameters), parameters)


if __name__ == "__main__":
    unittest.main()
