"""Whole numbers as sums of four squares: the falling ways, and how many ways there are."""

from spaceturns.errors import TooGreat

MOST_TOLD = 400
MOST_ROOT = 20
MOST_COUNTED = 1000000


def falling_ways(n):
    if n < 0 or n > MOST_TOLD:
        raise TooGreat(f"the falling ways are told of the whole numbers from 0 to {MOST_TOLD} alone")
    rows = [()]
    for place in range(4):
        rows = longer_rows(rows, n)
    return [row for row in rows if squares_of(row) == n]


# The rows rise and so do the parts put behind each, so the longer ones rise too.
def longer_rows(rows, n):
    longer = []
    for row in rows:
        left = n - squares_of(row)
        most = row[-1] if len(row) > 0 else MOST_ROOT
        longer.extend([row + (part,) for part in range(most + 1) if part * part <= left])
    return longer


def squares_of(row):
    return sum([part * part for part in row])


def count_ways(n):
    if n < 0 or n > MOST_COUNTED:
        raise TooGreat(f"the ways are counted of the whole numbers from 0 to {MOST_COUNTED} alone")
    if n == 0:
        return 1
    return 8 * sum([divisor for divisor in divisors(n) if divisor % 4 != 0])


# Divisors come in pairs with the product n, so those whose square is at most n tell all the others.
def divisors(n):
    told = []
    tried = 1
    while tried * tried <= n:
        if n % tried == 0:
            told.append(tried)
            if tried * tried != n:
                told.append(n // tried)
        tried += 1
    return told
