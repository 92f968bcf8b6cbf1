"""Words: the rows of a page, and the numbers and spots that are written in them."""

from wirefloor.things import FIGURES

MOST_FIGURES = 18


def words_in(row):
    # Blanks alone part words, so a tab stays within one.
    return [piece for piece in row.partition(";")[0].split(" ") if piece != ""]


def rows_of(page):
    rows = [(number, words_in(row)) for number, row in enumerate(page.split("\n"), start=1)]
    return [(number, words) for number, words in rows if len(words) > 0]


def number_in(word):
    if not 1 <= len(word) <= MOST_FIGURES or any([sign not in FIGURES for sign in word]):
        return None
    if word[0] == "0" and len(word) > 1:
        return None
    return int(word)


def spot_in(word):
    numbers = [number_in(part) for part in word.split(".")]
    if len(numbers) != 3 or None in numbers:
        return None
    return tuple(numbers)


def spot_word(spot):
    layer, row, column = spot
    return f"{layer}.{row}.{column}"
