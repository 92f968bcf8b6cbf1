"""The reader: a page is read as a board."""

from wirefloor.board import Board
from wirefloor.errors import BadRow
from wirefloor.floor import Floor, check_inside, check_price, check_prices, check_sizes
from wirefloor.runs import box
from wirefloor.things import Bundle, Net
from wirefloor.words import number_in, rows_of, spot_in


def numbers_told(words, many):
    numbers = [number_in(word) for word in words]
    return None if len(numbers) != many or None in numbers else tuple(numbers)


def spots_told(words):
    spots = [spot_in(word) for word in words]
    return None if None in spots else spots


def corners_told(words):
    spots = spots_told(words)
    if spots is None or not 1 <= len(spots) <= 2:
        return None
    return (spots[0], spots[-1])


def toll_told(words):
    price = numbers_told(words[:1], 1)
    corners = corners_told(words[1:])
    return None if price is None or corners is None else price + corners


def net_told(words):
    numbers = numbers_told(words[1:3], 2)
    pins = spots_told(words[3:])
    return None if numbers is None or pins is None else (words[0], numbers[0], numbers[1], pins)


def bundle_told(words):
    room = numbers_told(words[1:2], 1)
    if room is None or words[2:].count("to") != 1:
        return None
    # Looked for behind the name, which may be the same word.
    place = words[2:].index("to") + 2
    starts = spots_told(words[2:place])
    goals = spots_told(words[place + 1:])
    return None if starts is None or goals is None else (words[0], room[0], starts, goals)


def row_told(kind, words):
    if kind == "floor":
        return numbers_told(words, 3)
    if kind == "layer":
        return numbers_told(words, 2)
    if kind == "via":
        return numbers_told(words, 1)
    if kind == "rock":
        return corners_told(words)
    if kind == "toll":
        return toll_told(words)
    if kind == "net":
        return net_told(words)
    if kind == "bundle":
        return bundle_told(words)
    return None


def rows_told(page):
    rows = rows_of(page)
    if len(rows) == 0:
        raise BadRow(1)
    told = []
    for number, words in rows:
        parts = row_told(words[0], words[1:])
        if parts is None or (words[0] == "floor") != (len(told) == 0):
            raise BadRow(number)
        told.append((words[0], parts))
    return told


def parts_of(told, kind):
    return [parts for one, parts in told if one == kind]


def marked(boxes):
    marks = {}
    for mark, one, two in boxes:
        for spot in box(one, two):
            marks[spot] = mark
    return marks


def floor_told(told):
    sizes = told[0][1]
    prices = parts_of(told, "layer")
    vias = [parts[0] for parts in parts_of(told, "via")]
    rocks = [(True, one, two) for one, two in parts_of(told, "rock")]
    tolls = parts_of(told, "toll")
    check_sizes(sizes, prices, vias)
    check_prices(prices, vias, {})
    # Each toll, and each corner of a box, is looked at ahead of the boxes: a
    # later toll may go ahead of it, and a box may be far greater than a floor.
    for price, one, two in tolls:
        check_price(price, 0)
    for mark, one, two in rocks + tolls:
        check_inside(sizes, one)
        check_inside(sizes, two)
    return Floor(sizes, prices, vias, list(marked(rocks)), marked(tolls))


def thing_told(kind, parts):
    if kind == "net":
        name, half, room, pins = parts
        return Net(name, pins, half, room)
    name, room, starts, goals = parts
    return Bundle(name, starts, goals, room)


def read_board(page):
    told = rows_told(page)
    floor = floor_told(told)
    things = [thing_told(kind, parts) for kind, parts in told if kind == "net" or kind == "bundle"]
    return Board(floor, things)
