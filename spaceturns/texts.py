"""Fours and whole numbers written as texts, and read back from them."""

from spaceturns.errors import NoText

FIGURES = "0123456789"
MOST_FIGURES = 40


def row_text(numbers):
    return " ".join([str(number) for number in numbers])


def four_text(four):
    return " ".join([part_text(part) for part in four])


def part_text(part):
    if part % 2 == 0:
        return str(part // 2)
    return f"{part}/2"


def four_read(text):
    words = text.split(" ")
    parts = parts_read(words[:4])
    if len(words) != 4:
        raise NoText(min(len(words), 4))
    for place, part in enumerate(parts):
        if part % 2 != parts[0] % 2:
            raise NoText(place)
    return tuple(parts)


def parts_read(words):
    parts = []
    for place, word in enumerate(words):
        part = part_read(word)
        if part is None:
            raise NoText(place)
        parts.append(part)
    return parts


# None where the word writes no part.
def part_read(word):
    if word.endswith("/2"):
        return odd_or_none(whole_read(word[:-2]))
    return doubled_or_none(whole_read(word))


def odd_or_none(number):
    if number is None or number % 2 == 0:
        return None
    return number


# A whole word stands doubled in the four, and it is there that its figures are counted.
def doubled_or_none(number):
    if number is None or has_too_many_figures(number * 2):
        return None
    return number * 2


def has_too_many_figures(number):
    return len(str(abs(number))) > MOST_FIGURES


# None where the word writes no whole number of at most forty figures.
def whole_read(word):
    figures = word[1:] if word.startswith("-") else word
    if word == "-0" or not are_figures(figures):
        return None
    return int(word)


# Python's int and isdigit take more than the document does: figures of other scripts, 1_000, +1, 007.
# The length is looked at first, as int itself refuses very long texts.
def are_figures(text):
    if len(text) < 1 or len(text) > MOST_FIGURES:
        return False
    if text.startswith("0") and len(text) > 1:
        return False
    return all([sign in FIGURES for sign in text])
