import unittest
from fractions import Fraction
from math import gcd

from splitstream.errors import BadFraction
from splitstream.fractions import below, is_fraction, made, minus, over, plus, times, total

HUGE = 3 ** 2000
VALUES = [
    (0, 1), (1, 1), (-1, 1), (1, 2), (-1, 2), (2, 3), (-2, 3), (5, 6), (-7, 6), (12, 1), (-12, 1),
    (1, 1000000000), (999999999, 1000000000), (HUGE, 2 ** 2000), (-HUGE, 5 ** 900), (1, HUGE),
]
NO_WHOLE_NUMBERS = [True, False, None, "1", "", 1.0, 0.5, (1, 1), [1], {}, 1j, Fraction(1, 1)]


def pair(value):
    return (value.numerator, value.denominator)


class FractionCase(unittest.TestCase):
    def assert_fraction(self, value, expected):
        self.assertIs(type(value), tuple)
        self.assertEqual([type(number) for number in value], [int, int])
        self.assertEqual(value, expected)


class Made(FractionCase):
    def test_least_numbers(self):
        self.assert_fraction(made(6, 4), (3, 2))
        self.assert_fraction(made(4, 6), (2, 3))
        self.assert_fraction(made(3, 2), (3, 2))
        self.assert_fraction(made(1, 1000000000), (1, 1000000000))

    def test_signs_of_either_number(self):
        self.assert_fraction(made(-6, 4), (-3, 2))
        self.assert_fraction(made(6, -4), (-3, 2))
        self.assert_fraction(made(-6, -4), (3, 2))
        self.assert_fraction(made(1, -1), (-1, 1))

    def test_nought(self):
        for b in (1, 2, -1, -8, 1000000007, HUGE, -HUGE):
            self.assert_fraction(made(0, b), (0, 1))

    def test_one_number_a_multiple_of_the_other(self):
        self.assert_fraction(made(12, 4), (3, 1))
        self.assert_fraction(made(4, 12), (1, 3))
        self.assert_fraction(made(-12, 4), (-3, 1))
        self.assert_fraction(made(4, -12), (-1, 3))
        self.assert_fraction(made(7, 7), (1, 1))
        self.assert_fraction(made(7, -7), (-1, 1))

    def test_every_small_pair(self):
        for a in range(-30, 31):
            for b in range(-30, 31):
                if b != 0:
                    self.assert_fraction(made(a, b), pair(Fraction(a, b)))

    def test_multiples_of_a_pair_make_the_same_fraction(self):
        for many in (1, 2, 3, 10, 1000003, -1, -2, -9, HUGE, -HUGE):
            self.assert_fraction(made(10 * many, 21 * many), (10, 21))
            self.assert_fraction(made(-10 * many, 21 * many), (-10, 21))

    def test_very_large_numbers(self):
        self.assert_fraction(made(6 * HUGE, 4 * HUGE), (3, 2))
        self.assert_fraction(made(HUGE * 10, 2 ** 2000), (HUGE * 5, 2 ** 1999))
        self.assert_fraction(made(HUGE, -HUGE - 1), (-HUGE, HUGE + 1))

    def test_second_number_nought_is_refused(self):
        for a in (0, 1, -1, 5, HUGE):
            with self.assertRaises(BadFraction):
                made(a, 0)

    def test_no_whole_numbers_are_refused(self):
        for value in NO_WHOLE_NUMBERS:
            for a, b in ((value, 1), (1, value), (0, value), (value, 0), (value, value)):
                with self.subTest(a=a, b=b), self.assertRaises(BadFraction):
                    made(a, b)


class IsFraction(unittest.TestCase):
    def test_fractions(self):
        for value in VALUES:
            self.assertIs(is_fraction(value), True)

    def test_no_fractions(self):
        for value in [(0, 2), (2, 4), (-2, 4), (1, 0), (0, 0), (1, -1), (-1, -2), (0, -1), (), (1,), (1, 1, 1), [1, 2]]:
            with self.subTest(value=value):
                self.assertIs(is_fraction(value), False)

    def test_other_kinds(self):
        for value in NO_WHOLE_NUMBERS:
            for wrong in ((value, 1), (1, value)):
                with self.subTest(wrong=wrong):
                    self.assertIs(is_fraction(wrong), False)


class Reckoned(FractionCase):
    def test_written_cases(self):
        self.assert_fraction(plus((1, 2), (1, 3)), (5, 6))
        self.assert_fraction(plus((1, 6), (1, 3)), (1, 2))
        self.assert_fraction(plus((1, 2), (-1, 2)), (0, 1))
        self.assert_fraction(minus((1, 2), (1, 3)), (1, 6))
        self.assert_fraction(minus((1, 3), (1, 2)), (-1, 6))
        self.assert_fraction(minus((5, 7), (5, 7)), (0, 1))
        self.assert_fraction(times((2, 3), (3, 4)), (1, 2))
        self.assert_fraction(times((-2, 3), (-3, 2)), (1, 1))
        self.assert_fraction(times((0, 1), (-3, 2)), (0, 1))
        self.assert_fraction(over((2, 3), (4, 3)), (1, 2))
        self.assert_fraction(over((2, 3), (-4, 3)), (-1, 2))
        self.assert_fraction(over((0, 1), (-4, 3)), (0, 1))

    def test_each_two_values(self):
        for one in VALUES:
            for other in VALUES:
                first, second = Fraction(*one), Fraction(*other)
                self.assert_fraction(plus(one, other), pair(first + second))
                self.assert_fraction(minus(one, other), pair(first - second))
                self.assert_fraction(times(one, other), pair(first * second))
                if other[0] != 0:
                    self.assert_fraction(over(one, other), pair(first / second))

    def test_results_have_no_divisor_in_common(self):
        for one in VALUES:
            for other in VALUES:
                for result in (plus(one, other), minus(one, other), times(one, other)):
                    self.assertGreater(result[1], 0)
                    self.assertEqual(gcd(*result), 1)


class Total(FractionCase):
    def test_empty_list(self):
        self.assert_fraction(total([]), (0, 1))

    def test_one_fraction(self):
        for value in VALUES:
            self.assert_fraction(total([value]), value)

    def test_several(self):
        self.assert_fraction(total([(1, 2), (1, 3), (1, 6)]), (1, 1))
        self.assert_fraction(total([(1, 2), (-1, 3), (-1, 6)]), (0, 1))
        self.assert_fraction(total([(1, 4)] * 6), (3, 2))
        self.assert_fraction(total(VALUES), pair(sum(Fraction(*value) for value in VALUES)))

    def test_the_list_handed_in_is_not_changed(self):
        handed = [(1, 2), (1, 3)]
        total(handed)
        self.assertEqual(handed, [(1, 2), (1, 3)])


class Below(unittest.TestCase):
    def test_written_cases(self):
        self.assertIs(below((1, 3), (1, 2)), True)
        self.assertIs(below((1, 2), (1, 3)), False)
        self.assertIs(below((1, 2), (1, 2)), False)
        self.assertIs(below((0, 1), (0, 1)), False)
        self.assertIs(below((-1, 2), (-1, 3)), True)
        self.assertIs(below((-1, 3), (-1, 2)), False)
        self.assertIs(below((-1, 2), (-1, 2)), False)
        self.assertIs(below((-1, 2), (0, 1)), True)
        self.assertIs(below((0, 1), (-1, 2)), False)
        self.assertIs(below((-5, 1), (1, 9)), True)

    def test_very_close_large_ones(self):
        self.assertIs(below((HUGE, HUGE + 1), (HUGE + 1, HUGE + 2)), True)
        self.assertIs(below((HUGE + 1, HUGE + 2), (HUGE, HUGE + 1)), False)

    def test_each_two_values(self):
        for one in VALUES:
            for other in VALUES:
                self.assertIs(below(one, other), Fraction(*one) < Fraction(*other))


if __name__ == "__main__":
    unittest.main()
