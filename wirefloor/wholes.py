"""Whole numbers, below nought too, as they are written in answers."""

from wirefloor.words import number_in


def whole_in(word):
    if not word.startswith("-"):
        return number_in(word)
    number = number_in(word[1:])
    # Nought has no sign ahead of it.
    return None if number is None or number == 0 else 0 - number


def whole_word(number):
    return str(number)
