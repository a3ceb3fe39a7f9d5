"""Deeds: turns, half turns and mirrors, each with its table, and the texts by which they are told and read."""

from spaceturns.errors import NoText
from spaceturns.fours import opposite
from spaceturns.products import other_signed, plain_product
from spaceturns.tables import place_by, table_of
from spaceturns.texts import row_text, whole_read
from spaceturns.wholes import upright

WORDS = {"turn": 4, "half": 3, "mirror": 3}


# What the three have in common; row holds the numbers that the text tells, fractions the table.
class Deed:
    def __init__(self, word, row, fractions):
        self.word = word
        self.row = row
        self.fractions = fractions

    def table(self):
        return self.fractions

    def place(self, spot):
        return place_by(self.fractions, spot)

    def same(self, other):
        return self.fractions == other.table()

    def told(self):
        return self.word + " " + row_text(self.row)


class Turn(Deed):
    def __init__(self, numbers):
        Deed.__init__(self, "turn", upright(numbers), table_of(numbers))

    def number(self):
        return self.row

    def back(self):
        return Turn(other_signed(self.row))

    def behind(self, first):
        return Turn(plain_product(self.row, first.number()))


class HalfTurn(Deed):
    def __init__(self, axis):
        Deed.__init__(self, "half", upright(axis), half_table(axis))

    def axis(self):
        return self.row

    def back(self):
        return HalfTurn(self.row)


class Mirror(Deed):
    def __init__(self, axis):
        n, rows = half_table(axis)
        Deed.__init__(self, "mirror", upright(axis), (n, tuple([opposite(row) for row in rows])))

    def axis(self):
        return self.row

    def back(self):
        return Mirror(self.row)


def half_table(axis):
    return table_of((0,) + axis)


def deed_read(text):
    words = text.split(" ")
    if words[0] not in WORDS:
        raise NoText(0)
    wanted = WORDS[words[0]] + 1
    numbers = numbers_read(words[:wanted])
    if len(words) != wanted:
        raise NoText(min(len(words), wanted))
    return deed_by(words[0], numbers)


# Of the words behind the first one.
def numbers_read(words):
    numbers = []
    for place, word in enumerate(words[1:], start=1):
        number = whole_read(word)
        if number is None:
            raise NoText(place)
        numbers.append(number)
    return tuple(numbers)


def deed_by(word, numbers):
    if word == "turn":
        return Turn(numbers)
    return HalfTurn(numbers) if word == "half" else Mirror(numbers)
