"""Spots split into gates and doors, so that ways which lie may be laid otherwise."""


def gate(spot):
    return spot + (0,)


def door(spot):
    return spot + (1,)


def spot_of_mark(mark):
    return mark[:3]


def is_door(mark):
    return mark[3] == 1


def gate_arcs(arcs, comes, spot):
    if spot not in comes:
        return [(door(spot), 0)]
    ahead = comes[spot]
    if ahead is None:
        return []
    return [(door(ahead), 0 - price) for other, price in arcs(ahead) if other == spot]


def door_arcs(arcs, comes, spot):
    onward = [(gate(other), price) for other, price in arcs(spot)]
    return onward + [(gate(spot), 0)] if spot in comes else onward


def split_arcs(arcs, comes):
    kept = dict(comes)

    def leads(mark):
        if is_door(mark):
            return door_arcs(arcs, kept, spot_of_mark(mark))
        return gate_arcs(arcs, kept, spot_of_mark(mark))

    return leads


def rerouted(comes, marks):
    turned = dict(comes)
    turned[spot_of_mark(marks[0])] = None
    for one, two in zip(marks, marks[1:]):
        spot = spot_of_mark(two)
        if is_door(one) and spot == spot_of_mark(one):
            turned.pop(spot)
        elif is_door(one):
            turned[spot] = spot_of_mark(one)
    return turned
