"""The board: a floor and the things that are to be laid on it."""

from wirefloor.errors import Crowded, NoFit, Twice
from wirefloor.rooms import clash_at_all, fits


def check_names(things):
    names = {}
    for name in [thing.name for thing in things]:
        if name in names:
            raise Twice(f"two things are called {name}")
        names[name] = True


def check_fits(floor, things):
    for thing in things:
        for spot in thing.ends():
            if not fits(floor, thing, spot):
                raise NoFit(f"an end lies at {spot}, where it does not fit")


def check_crowds(things):
    for place, thing in enumerate(things):
        for other in things[place + 1:]:
            if clash_at_all(thing, thing.ends(), other, other.ends()):
                raise Crowded("two things clash at their ends")


class Board:
    def __init__(self, floor, things):
        check_names(things)
        check_fits(floor, things)
        check_crowds(things)
        self.floor = floor
        self.by_name = dict([(thing.name, thing) for thing in things])

    def things(self):
        return list(self.by_name.values())

    def thing_named(self, name):
        return self.by_name.get(name)
