"""Things: nets and bundles, and whether a wiring is sound for one of them."""

from wirefloor.errors import BadThing

LETTERS = "abcdefghijklmnopqrstuvwxyz"
FIGURES = "0123456789"
MOST_SIGNS = 12
MOST_HALF = 2
MOST_ROOM = 3
MOST_PINS = 6
MOST_STARTS = 6
MOST_GOALS = 12


def is_name(name):
    if not 1 <= len(name) <= MOST_SIGNS or name[0] not in LETTERS:
        return False
    return all([sign in LETTERS or sign in FIGURES for sign in name])


def check_unlike(spots):
    if len(set(spots)) != len(spots):
        raise BadThing("one spot is told twice")


def near_by(floor, wiring):
    # The spots on the wiring, each with those to which its steps lead; None
    # where a pair is no step or a step stands there twice, either way round.
    near = {}
    for one, two in wiring:
        if not floor.is_step(one, two) or two in near.get(one, []):
            return None
        near.setdefault(one, []).append(two)
        near.setdefault(two, []).append(one)
    return near


def reached(near, start):
    found = {start: True}
    waiting = [start]
    while len(waiting) > 0:
        here = waiting.pop()
        for spot in near[here]:
            if spot not in found:
                found[spot] = True
                waiting.append(spot)
    return found


def walked(near, start):
    # Comes to an end: the start lies on one step and no spot on more than two.
    way = [start]
    here = near[start][0]
    while len(near[here]) == 2:
        one, two = near[here]
        onward = two if one == way[-1] else one
        way.append(here)
        here = onward
    way.append(here)
    return way


class Thing:
    def __init__(self, name, half, room):
        if not is_name(name):
            raise BadThing(f"{name!r} is no name")
        if not 0 <= half <= MOST_HALF:
            raise BadThing(f"half {half} is not from 0 to {MOST_HALF}")
        if not 0 <= room <= MOST_ROOM:
            raise BadThing(f"room {room} is not from 0 to {MOST_ROOM}")
        self.name = name
        self.half = half
        self.room = room

    def ends(self):
        return []

    def sound(self, floor, wiring):
        near = near_by(floor, wiring)
        return near is not None and self.shaped(near, len(wiring))

    def shaped(self, near, many):
        return False


class Net(Thing):
    def __init__(self, name, pins, half=0, room=0):
        Thing.__init__(self, name, half, room)
        if not 2 <= len(pins) <= MOST_PINS:
            raise BadThing(f"a net has 2 to {MOST_PINS} pins")
        check_unlike(pins)
        self.pins = tuple(pins)

    def ends(self):
        return list(self.pins)

    def shaped(self, near, many):
        if any([pin not in near for pin in self.pins]):
            return False
        if any([len(near[spot]) == 1 and spot not in self.pins for spot in near]):
            return False
        # What hangs together has a ring unless its spots outnumber its steps.
        return len(near) == many + 1 and len(reached(near, self.pins[0])) == len(near)


class Bundle(Thing):
    def __init__(self, name, starts, goals, room=0):
        Thing.__init__(self, name, 0, room)
        if not 1 <= len(starts) <= MOST_STARTS:
            raise BadThing(f"a bundle has 1 to {MOST_STARTS} starts")
        if not len(starts) <= len(goals) <= MOST_GOALS:
            raise BadThing(f"a bundle has as many goals as starts at least, and at most {MOST_GOALS}")
        check_unlike(starts + goals)
        self.starts = tuple(starts)
        self.goals = tuple(goals)

    def ends(self):
        return list(self.starts + self.goals)

    def shaped(self, near, many):
        if any([len(near[spot]) > 2 for spot in near]):
            return False
        if any([len(near.get(start, [])) != 1 for start in self.starts]):
            return False
        if any([len(near.get(goal, [])) > 1 for goal in self.goals]):
            return False
        ways = [walked(near, start) for start in self.starts]
        if any([way[-1] not in self.goals for way in ways]):
            return False
        # No two ways share a step here, so each step is on one of them.
        return sum([len(way) - 1 for way in ways]) == many
