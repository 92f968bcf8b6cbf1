"""Papers: what is told of a thing over the spots that are free for it."""

from wirefloor.things import Net


def in_order(spots):
    return all([one < two for one, two in zip(spots, spots[1:])])


def all_clear(floor, free, spots):
    return all([spot in free and floor.is_open(spot) for spot in spots])


def shut_in(floor, free, spots, rim):
    known = dict([(spot, True) for spot in spots + rim])
    for spot in spots:
        if any([other in free and other not in known for other, price in floor.steps(spot)]):
            return False
    return True


def wires_lie(floor, free, thing, wires, price):
    if not thing.sound(floor, wires) or price != floor.wiring_price(wires):
        return False
    return all([one in free and two in free for one, two in wires])


def how_many(ends, spots):
    return len([end for end in ends if end in spots])


def parted(thing, spots):
    if isinstance(thing, Net):
        return 0 < how_many(thing.pins, spots) < len(thing.pins)
    return how_many(thing.starts, spots) > how_many(thing.goals, spots)


class Paper:
    def holds(self, floor, free, thing):
        return False

    def is_laid(self):
        return False


class ShorePaper(Paper):
    def __init__(self, spots):
        self.spots = tuple(spots)

    def holds(self, floor, free, thing):
        if not in_order(self.spots) or not all_clear(floor, free, self.spots):
            return False
        return parted(thing, self.spots) and shut_in(floor, free, self.spots, ())
