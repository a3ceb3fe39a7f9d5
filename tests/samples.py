"""Fours that several of the tests walk through."""

import itertools
import math

NINES = 10 ** 40 - 1

# All fours with parts from -2 to 2: nought, the ones and more.
SMALL = list(itertools.product((-2, 0, 2), repeat=4)) + list(itertools.product((-1, 1), repeat=4))

# Parts of up to forty figures, even and odd.
LONG = [
    (NINES, -NINES, NINES - 2, 1),
    (NINES - 1, 0, 1 - NINES, 2),
    (12345678901234567890123456789012345678, -98765432109876543210, 10 ** 39, -6),
    (-1, 31415926535897932384626433832795028841, 5, -27182818284590452353602874713526624977),
]

MIXED = [(2, -4, 0, 6), (1, -3, 5, 7), (10, 12, -14, 8), (-11, 13, 3, -101), (6, 6, 6, 6), (0, 0, 0, -98)]

FOURS = SMALL + MIXED + LONG
FEWER = SMALL[::7] + MIXED + LONG

NOUGHT, ONE = (0, 0, 0, 0), (2, 0, 0, 0)
SIDES = ("left", "right")
PRIMES = [number for number in range(2, 98) if all(number % lesser for lesser in range(2, number))]

# Texts that are near a side, and none.
NO_SIDES = ["", " ", "Left", "RIGHT", "left ", " right", "lef", "leftright", "l", "up", "both", "0", "None"]

# Spots, and axes but for the first, with numbers of up to two hundred figures.
GREAT = 10 ** 200 - 1
SPOTS = [
    (0, 0, 0), (1, 0, 0), (0, -1, 0), (0, 0, 7), (1, 1, 1), (-3, 5, 0), (12, -18, 30), (0, 6, -4), (-35, -21, 14),
    (NINES, -NINES, 1), (GREAT, 10 ** 199, -GREAT), (0, 0, -GREAT), (GREAT - 1, 2, 0),
]
AXES = SPOTS[1:]

# Rows of four whole numbers that are not all 0, as turns are made of.
ROWS = [row for row in itertools.product((-1, 0, 1, 2), repeat=4) if any(row)]
MORE_ROWS = [
    (3, 1, 4, -1), (0, 0, 0, -9), (6, -10, 0, 4), (-7, 0, 7, 14), (0, -2, 4, 6), (10, 11, 12, 13), (1, 3, 3, 3),
    (NINES, 0, 1 - NINES, 5), (-1, GREAT, 3, -GREAT), (2 * 3 ** 70, -4 * 3 ** 70, 0, 3 ** 71), (0, 0, -GREAT, 1),
] + LONG


def upright_one(row):
    """The row without a common divisor, the first number that is not 0 above 0."""
    divisor = math.gcd(*row)
    if next(part for part in row if part) < 0:
        divisor = -divisor
    return tuple(part // divisor for part in row)
