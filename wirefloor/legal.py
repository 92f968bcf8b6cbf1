"""Layouts on a board: their faults, when they are legal, and their price."""

from wirefloor.rooms import clash_at_all, fits, held


def others_of(board, layout, name):
    return [(thing, held(thing, layout.get(thing.name))) for thing in board.things() if thing.name != name]


def strangers(board, layout):
    return [("stranger", name) for name in sorted(layout) if board.thing_named(name) is None]


def misfits(board, layout):
    found = []
    for thing in [thing for thing in board.things() if thing.name in layout]:
        wiring = layout[thing.name]
        if not thing.sound(board.floor, wiring):
            found.append(("shape", thing.name))
        elif not all([fits(board.floor, thing, spot) for spot in held(thing, wiring)]):
            found.append(("rock", thing.name))
    return found


def clashes(board, layout):
    found = []
    holders = [(thing, held(thing, layout.get(thing.name))) for thing in board.things()]
    for place, holder in enumerate(holders):
        thing, spots = holder
        for other, places in holders[place + 1:]:
            if clash_at_all(thing, spots, other, places):
                found.append(("near", thing.name, other.name))
    return found


def faults(board, layout):
    return strangers(board, layout) + misfits(board, layout) + clashes(board, layout)


def legal(board, layout):
    return len(faults(board, layout)) == 0


def layout_price(board, layout):
    return sum([board.floor.wiring_price(wiring) for wiring in layout.values()])
