"""Trees: how a net is joined, and the paper that shows that it could hardly be cheaper."""

from wirefloor.hills import hill_round, least_far
from wirefloor.papers import Paper, ShorePaper, all_clear, wires_lie
from wirefloor.parts import Parts, taken
from wirefloor.spread import spread, way_back
from wirefloor.things import Net
from wirefloor.ways import arcs_in, climbed, height


def without_rings(steps):
    places = {}
    for one, two in steps:
        places.setdefault(one, len(places))
        places.setdefault(two, len(places))
    parts = Parts(len(places))
    kept = []
    for one, two in steps:
        if parts.merge(places[one], places[two]):
            kept.append((min(one, two), max(one, two)))
    return kept


def without_loose_ends(steps, pins):
    many = {}
    for one, two in steps:
        many[one] = many.get(one, 0) + 1
        many[two] = many.get(two, 0) + 1
    loose = dict([(spot, True) for spot in many if many[spot] == 1 and spot not in pins])
    return [(one, two) for one, two in steps if one not in loose and two not in loose]


def pruned(steps, pins):
    kept = without_rings(steps)
    left = without_loose_ends(kept, pins)
    while len(left) < len(kept):
        kept = left
        left = without_loose_ends(kept, pins)
    return sorted(kept)


def hill_holds(floor, free, net, hill):
    top, heights = hill
    if top <= 0 or not all_clear(floor, free, heights):
        return False
    if not all([0 <= high < top for high in heights.values()]):
        return False
    stand = [height(hill, pin) for pin in net.pins]
    return 0 in stand and top in stand


def climbs_hold(floor, free, hills):
    arcs = arcs_in(floor, free)
    for spot in free:
        if any([climbed(hills, spot, other) > 2 * price for other, price in arcs(spot)]):
            return False
    return True


class TreePaper(Paper):
    def __init__(self, wires, price, hills):
        self.wires = list(wires)
        self.price = price
        self.hills = [(top, dict(heights)) for top, heights in hills]

    def is_laid(self):
        return True

    def holds(self, floor, free, thing):
        if not isinstance(thing, Net) or not wires_lie(floor, free, thing, self.wires, self.price):
            return False
        if not all([hill_holds(floor, free, thing, hill) for hill in self.hills]):
            return False
        many = len(thing.pins)
        if many * self.price > (many - 1) * sum([top for top, heights in self.hills]):
            return False
        return climbs_hold(floor, free, self.hills)


def hills_round(fars, links):
    hills = []
    # By each pin's place: when its part was born, and the places of its pins.
    parts = [(0, [place]) for place in range(len(fars))]
    for price, one, other in links:
        for born, places in [parts[one], parts[other]]:
            if born < price:
                hills.append(hill_round(least_far([fars[place] for place in places]), born, price))
        places = parts[one][1] + parts[other][1]
        for place in places:
            parts[place] = (price, places)
    return hills


def links_between(pins, fars):
    links = []
    for one, far in enumerate(fars):
        for other in range(one + 1, len(pins)):
            if pins[other] in far:
                links.append((far[pins[other]], one, other))
    return links


def joined(floor, free, net):
    arcs = arcs_in(floor, free)
    spreads = [spread(arcs, [(pin, 0)]) for pin in net.pins]
    fars = [far for far, back in spreads]
    links = taken(links_between(net.pins, fars), len(net.pins))
    if len(links) < len(net.pins) - 1:
        return ShorePaper(sorted(fars[0]))
    steps = []
    for price, one, other in links:
        way = way_back(spreads[one][1], net.pins[other])
        steps.extend(list(zip(way, way[1:])))
    wires = pruned(steps, net.pins)
    return TreePaper(wires, floor.wiring_price(wires), hills_round(fars, links))
