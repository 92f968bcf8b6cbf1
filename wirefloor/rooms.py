"""Rooms: which spots a thing fits, where two things clash, and what is free beside others."""

from wirefloor.spots import apart, inside, square


def fits(floor, thing, spot):
    layer, row, column = spot
    # Where both of these corners lie inside, the border cuts off nothing.
    first = (layer, row - thing.half, column - thing.half)
    last = (layer, row + thing.half, column + thing.half)
    if not inside(floor.sizes, first) or not inside(floor.sizes, last):
        return False
    return not any([floor.is_rock(near) for near in square(floor.sizes, spot, thing.half)])


def reach_of(thing, other):
    return thing.half + other.half + max(thing.room, other.room)


def clash(thing, spot, other, place):
    distance = apart(spot, place)
    return distance is not None and distance <= reach_of(thing, other)


def clash_at_all(thing, spots, other, places):
    for spot in spots:
        if any([clash(thing, spot, other, place) for place in places]):
            return True
    return False


def held(thing, wiring):
    spots = thing.ends()
    if wiring is not None:
        for one, two in wiring:
            spots.extend([one, two])
    return sorted(set(spots))


def too_near(floor, thing, others):
    near = {}
    for other, spots in others:
        reach = reach_of(thing, other)
        for spot in spots:
            # However far out the spot lies, no row and no column of this does.
            for place in square(floor.sizes, spot, reach):
                near[place] = True
    return near


def free_for(floor, thing, others):
    near = too_near(floor, thing, others)
    spots = [spot for spot in floor.open_spots() if spot not in near]
    return dict([(spot, True) for spot in spots if fits(floor, thing, spot)])


def barred_by(floor, thing, others, spot):
    names = [other.name for other, spots in others if clash_at_all(thing, [spot], other, spots)]
    return names if fits(floor, thing, spot) else ["#"] + names
