"""Fours that several of the tests walk through."""

import itertools

NINES = 10 ** 40 - 1

# All fours with parts from -2 to 2: nought, the ones and more.
SMALL = list(itertools.product((-2, 0, 2), repeat=4)) + list(itertools.product((-1, 1), repeat=4))

# Parts of up to forty figures, even and odd.
LONG = [
    (NINES, -NINES, NINES - 2, 1),
    (NINES - 1, 0, 1 - NINES, 2),
    (12345678901234567890123456789012345678, -98765432109876543210, 10 ** 39, -6),
    (-1, 31415926535897932384626433832795028841, 5, -27182818284590452353602874713526624977),
]

MIXED = [(2, -4, 0, 6), (1, -3, 5, 7), (10, 12, -14, 8), (-11, 13, 3, -101), (6, 6, 6, 6), (0, 0, 0, -98)]

FOURS = SMALL + MIXED + LONG
FEWER = SMALL[::7] + MIXED + LONG

NOUGHT, ONE = (0, 0, 0, 0), (2, 0, 0, 0)
SIDES = ("left", "right")
PRIMES = [number for number in range(2, 98) if all(number % lesser for lesser in range(2, number))]

# Texts that are near a side, and none.
NO_SIDES = ["", " ", "Left", "RIGHT", "left ", " right", "lef", "leftright", "l", "up", "both", "0", "None"]
