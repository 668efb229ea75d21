"""Fractions: pairs (a, b) of whole numbers in least numbers, b above 0."""

from splitstream.errors import BadFraction


# True and False pass for whole numbers in Python, but are none here.
def is_whole(value):
    return isinstance(value, int) and not isinstance(value, bool)


def is_fraction(value):
    if not isinstance(value, tuple) or len(value) != 2:
        return False
    if not is_whole(value[0]) or not is_whole(value[1]):
        return False
    return value[1] > 0 and common_divisor(value[0], value[1]) == 1


def common_divisor(a, b):
    one = abs(a)
    other = abs(b)
    while other != 0:
        rest = one % other
        one = other
        other = rest
    return one


def made(a, b):
    if not is_whole(a) or not is_whole(b) or b == 0:
        raise BadFraction("a fraction is made of two whole numbers, the second one not 0")
    divisor = common_divisor(a, b)
    # A divisor of the second number's sign leaves that one above 0.
    if b < 0:
        divisor = -divisor
    return (a // divisor, b // divisor)


def plus(one, other):
    return made(one[0] * other[1] + other[0] * one[1], one[1] * other[1])


def minus(one, other):
    return made(one[0] * other[1] - other[0] * one[1], one[1] * other[1])


def times(one, other):
    return made(one[0] * other[0], one[1] * other[1])


def over(one, other):
    return made(one[0] * other[1], one[1] * other[0])


def total(fractions):
    result = (0, 1)
    for fraction in fractions:
        result = plus(result, fraction)
    return result


# Both second numbers are above 0, so multiplying by them keeps the order.
def below(one, other):
    return one[0] * other[1] < other[0] * one[1]
