"""Tables of nine fractions: where they bring spots, those that are turns' tables, and tables one behind another."""

from spaceturns.errors import NoTurn
from spaceturns.wholes import added_products, common_divisor, shortened, upright

PAIRS = ((0, 0), (0, 1), (0, 2), (1, 1), (1, 2), (2, 2))


def lowest(table):
    n, rows = table
    common = common_divisor((n,) + rows[0] + rows[1] + rows[2])
    return (n // common, tuple([shortened(row, common) for row in rows]))


def place_by(table, spot):
    n, rows = table
    brought = each_with(rows, spot)
    common = common_divisor((n,) + brought)
    return (n // common, shortened(brought, common))


def table_of(numbers):
    a, b, c, d = upright(numbers)
    rows = (
        (a * a + b * b - c * c - d * d, 2 * b * c - 2 * a * d, 2 * b * d + 2 * a * c),
        (2 * b * c + 2 * a * d, a * a - b * b + c * c - d * d, 2 * c * d - 2 * a * b),
        (2 * b * d - 2 * a * c, 2 * c * d + 2 * a * b, a * a - b * b - c * c + d * d),
    )
    return lowest((a * a + b * b + c * c + d * d, rows))


def table_fault(table):
    n, rows = table
    for i, j in PAIRS:
        if added_products(rows[i], rows[j]) != (n * n if i == j else 0):
            return ("rows", i, j)
    return ("over",) if determinant(rows) < 0 else None


def determinant(rows):
    p, q, r = rows[1]
    s, t, u = rows[2]
    return added_products(rows[0], (q * u - r * t, r * s - p * u, p * t - q * s))


def number_of(table):
    fault = table_fault(table)
    if fault is not None:
        raise NoTurn(fault)
    return upright([row for row in multiples(table) if any(row)][0])


# Where (a, b, c, d) makes the turn, these rows are a times, b times, c times and d times (a, b, c, d), but for one
# factor that all of them share; so each that is not noughts alone tells the turn's number.
def multiples(table):
    n, rows = table
    p, q, r = rows[0]
    s, t, u = rows[1]
    v, w, x = rows[2]
    return [
        (n + p + t + x, w - u, r - v, s - q),
        (w - u, n + p - t - x, q + s, r + v),
        (r - v, q + s, n - p + t - x, u + w),
        (s - q, r + v, u + w, n - p - t + x),
    ]


def behind(first, second):
    n, rows = first
    m, later = second
    columns = list(zip(rows[0], rows[1], rows[2]))
    return lowest((n * m, tuple([each_with(columns, row) for row in later])))


def each_with(rows, other):
    return tuple([added_products(row, other) for row in rows])
