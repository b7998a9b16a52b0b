"""What the tests share: fractions as they are told, and a likeness that sees kinds."""

import unittest
from fractions import Fraction


def f(number, bottom=1):
    """The told fraction of a number, a text like "1/2", or a top and a bottom."""
    number = Fraction(number) / bottom
    return (number.numerator, number.denominator)


def number(pair):
    return Fraction(pair[0], pair[1])


def alike(one, other):
    """Equal, and of the very same kinds all through: 1 isn't True, a tuple isn't a list."""
    if type(one) is not type(other):
        return False
    if isinstance(one, (tuple, list)):
        return len(one) == len(other) and all(alike(a, b) for a, b in zip(one, other))
    return one == other


class Base(unittest.TestCase):
    def same(self, answer, wanted):
        if not alike(answer, wanted):
            self.assertEqual(answer, wanted)
            self.fail("equal, but of other kinds")
