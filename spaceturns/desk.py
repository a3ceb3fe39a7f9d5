"""A desk: it keeps fours by names, and answers lines of words with texts."""

from spaceturns.apart import taken_apart
from spaceturns.deeds import Turn
from spaceturns.dividing import divided
from spaceturns.errors import NoLine, NoName, TooGreat
from spaceturns.fours import total
from spaceturns.greatest import greatest
from spaceturns.products import other_signed, product, size
from spaceturns.squares import count_ways, falling_ways
from spaceturns.staying import base_of, corner_number
from spaceturns.texts import four_read, four_text, has_too_many_figures, row_text, whole_read

LETTERS = "abcdefghijklmnopqrstuvwxyz"
MOST_LETTERS = 8
MOST_NUMBERS = 40

# The kinds of the words behind each first word; behind that of apart numbers may follow.
FORMS = {
    "keep": ("new", "part", "part", "part", "part"),
    "sum": ("new", "name", "name"),
    "times": ("new", "name", "name"),
    "bar": ("new", "name"),
    "drop": ("name",),
    "names": (),
    "show": ("name",),
    "size": ("name",),
    "divide": ("side", "name", "name"),
    "shared": ("side", "name", "name"),
    "apart": ("name",),
    "turn": ("name",),
    "place": ("name", "number", "number", "number"),
    "corner": ("name",),
    "base": ("name",),
    "ways": ("number",),
    "squares": ("number",),
}


class Desk:
    def __init__(self):
        self.kept = {}

    def tell(self, line):
        words = line.split(" ")
        form = form_of(words)
        fours = [self.four_by(word) for word in words_like("name", form, words)]
        numbers = [whole_read(word) for word in words_like("number", form, words)]
        if "new" in form:
            return self.keep_four(words[1], made(words, fours))
        if words[0] == "drop":
            return self.drop_four(words[1])
        if words[0] == "names":
            return self.told_names()
        if "side" in form:
            return told_of_two(words[0], words[1], fours)
        if "name" in form:
            return told_of_one(words[0], fours[0], numbers)
        return told_of_number(words[0], numbers[0])

    def four_by(self, word):
        if word not in self.kept:
            raise NoName(word)
        return self.kept[word]

    def keep_four(self, word, four):
        self.kept[word] = four
        return four_text(four)

    def drop_four(self, word):
        self.kept.pop(word)
        return "dropped"

    def told_names(self):
        return " ".join(sorted(self.kept)) if len(self.kept) > 0 else "none"


# The kinds of the words behind the first one, where all of them can be looked at without the desk's names.
def form_of(words):
    form = FORMS.get(words[0])
    if form is None:
        raise NoLine("the first word is none that a desk knows")
    if words[0] == "apart":
        form = form + ("number",) * min(len(words) - 2, MOST_NUMBERS)
    if len(words) - 1 != len(form):
        raise NoLine("the line has more or fewer words than are wanted")
    if not all([is_right(kind, word) for kind, word in zip(form, words[1:])]):
        raise NoLine("a new name, a number or a side is none")
    return form


def is_right(kind, word):
    if kind == "new":
        return is_name(word)
    if kind == "number":
        return whole_read(word) is not None
    return kind != "side" or word in ("left", "right")


def is_name(word):
    return 1 <= len(word) <= MOST_LETTERS and all([sign in LETTERS for sign in word])


def words_like(wanted, form, words):
    return [word for kind, word in zip(form, words[1:]) if kind == wanted]


# The four that a line makes to be kept.
def made(words, fours):
    if words[0] == "keep":
        return four_read(" ".join(words[2:]))
    if words[0] == "bar":
        return other_signed(fours[0])
    one, other = fours
    four = total(one, other) if words[0] == "sum" else product(one, other)
    if any([has_too_many_figures(part) for part in four]):
        raise TooGreat("a part of the four has too many figures to be kept")
    return four


def told_of_two(word, side, fours):
    one, other = fours
    if word == "shared":
        return four_text(greatest(one, other, side)[0])
    quotient, rest = divided(one, other, side)
    return four_text(quotient) + " rest " + four_text(rest)


def told_of_one(word, four, numbers):
    if word == "show":
        return four_text(four)
    if word == "size":
        return str(size(four))
    if word == "apart":
        e, parts = taken_apart(four, numbers)
        return "; ".join([four_text(part) for part in [e] + parts])
    return told_of_turn(word, Turn(four), numbers)


def told_of_turn(word, turn, numbers):
    if word == "corner":
        return str(corner_number(turn))
    if word == "place":
        n, spot = turn.place(tuple(numbers))
        return row_text((n,) + spot)
    if word == "turn":
        n, rows = turn.table()
        return row_text((n,) + rows[0] + rows[1] + rows[2])
    first, second, third = base_of(turn)
    return row_text(first + second + third)


def told_of_number(word, number):
    if word == "ways":
        return str(count_ways(number))
    return "; ".join([row_text(way) for way in falling_ways(number)])
