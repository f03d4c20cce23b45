import unittest

from surestretch import errors

REFUSALS = ("NoNumber", "NoRule", "NotSure", "TooMuch", "NoPlan", "NoText", "NoName", "NoRow")


class TheClasses(unittest.TestCase):
    def test_stretch_error_is_straight_under_value_error(self):
        self.assertEqual(errors.StretchError.__bases__, (ValueError,))

    def test_each_refusal_is_straight_under_stretch_error(self):
        for name in REFUSALS:
            with self.subTest(name):
                self.assertEqual(getattr(errors, name).__bases__, (errors.StretchError,))

    def test_none_stands_under_another_one(self):
        for name in REFUSALS:
            for other in REFUSALS:
                with self.subTest(name=name, other=other):
                    self.assertEqual(issubclass(getattr(errors, name), getattr(errors, other)), name == other)

    def test_each_has_its_own_name(self):
        for name in REFUSALS + ("StretchError",):
            self.assertEqual(getattr(errors, name).__name__, name)

    def test_each_is_raised_and_taken_as_any_refusal(self):
        for name in REFUSALS:
            for base in (getattr(errors, name), errors.StretchError, ValueError):
                with self.subTest(name=name, base=base), self.assertRaises(base):
                    raise getattr(errors, name)((1, 2))


class TheFieldOfNotSure(unittest.TestCase):
    def test_it_keeps_what_it_is_made_with(self):
        for at in ((1, 2), (0, 1), 0, 7, (10 ** 59 + 1, 10 ** 59 + 2)):
            with self.subTest(at):
                self.assertEqual(errors.NotSure(at).at, at)

    def test_it_keeps_the_very_thing(self):
        at = (3, 4)
        self.assertIs(errors.NotSure(at).at, at)
        self.assertIs(errors.NotSure(at=at).at, at)

    def test_each_keeps_its_own(self):
        first = errors.NotSure((1, 3))
        second = errors.NotSure(5)
        self.assertEqual((first.at, second.at), ((1, 3), 5))

    def test_it_is_still_there_when_taken(self):
        with self.assertRaises(errors.StretchError) as taken:
            raise errors.NotSure((2, 5))
        self.assertEqual(taken.exception.at, (2, 5))

    def test_it_is_made_with_just_one_thing(self):
        with self.assertRaises(TypeError):
            errors.NotSure()
        with self.assertRaises(TypeError):
            errors.NotSure(1, 2)


if __name__ == "__main__":
    unittest.main()
