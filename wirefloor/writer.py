"""The writer: a board is written as a page."""

from wirefloor.runs import runs
from wirefloor.things import Net
from wirefloor.words import spot_word


def row_of(kind, numbers):
    return " ".join([kind] + [str(number) for number in numbers])


def spot_words(spots):
    return [spot_word(spot) for spot in spots]


def run_words(first, last):
    return spot_words([first] if first == last else [first, last])


def thing_row(thing):
    if isinstance(thing, Net):
        words = ["net", thing.name, str(thing.half), str(thing.room)]
        return " ".join(words + spot_words(thing.pins))
    words = ["bundle", thing.name, str(thing.room)]
    return " ".join(words + spot_words(thing.starts) + ["to"] + spot_words(thing.goals))


def rock_rows(floor):
    marks = dict([(spot, True) for spot in floor.rocks_told()])
    return [" ".join(["rock"] + run_words(first, last)) for first, last, mark in runs(marks)]


def toll_rows(floor):
    marks = dict(floor.tolls_told())
    return [" ".join(["toll", str(toll)] + run_words(first, last)) for first, last, toll in runs(marks)]


def written(board):
    floor = board.floor
    rows = [row_of("floor", floor.sizes)]
    rows.extend([row_of("layer", pair) for pair in floor.layer_prices()])
    rows.extend([row_of("via", [price]) for price in floor.via_prices()])
    rows.extend(rock_rows(floor))
    rows.extend(toll_rows(floor))
    rows.extend([thing_row(thing) for thing in board.things()])
    return "\n".join(rows)
