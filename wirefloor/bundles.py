"""Bundles: how one is laid, and the papers that show that it can't be cheaper, or can't be."""

from wirefloor.flows import Flow
from wirefloor.papers import Paper, all_clear, how_many, in_order, shut_in, wires_lie
from wirefloor.things import Bundle
from wirefloor.ways import arcs_in


class BundlePaper(Paper):
    def __init__(self, wires, price, depth, heights):
        self.wires = list(wires)
        self.price = price
        self.depth = depth
        self.heights = dict(heights)

    def is_laid(self):
        return True

    def holds(self, floor, free, thing):
        if not isinstance(thing, Bundle) or not wires_lie(floor, free, thing, self.wires, self.price):
            return False
        if not all_clear(floor, free, self.heights):
            return False
        rents = sum([max(high - low, 0) for low, high in self.heights.values()])
        if self.price != len(thing.starts) * self.depth - rents:
            return False
        return self.ends_hold(thing) and self.climbs_hold(floor, free)

    def lows_and_highs(self, spot):
        return self.heights.get(spot, (self.depth, self.depth))

    def ends_hold(self, bundle):
        if any([self.lows_and_highs(start)[0] > 0 for start in bundle.starts]):
            return False
        return all([self.lows_and_highs(goal)[1] >= self.depth for goal in bundle.goals])

    def climbs_hold(self, floor, free):
        arcs = arcs_in(floor, free)
        for spot in free:
            high = self.lows_and_highs(spot)[1]
            if any([self.lows_and_highs(other)[0] > high + price for other, price in arcs(spot)]):
                return False
        return True


class CutPaper(Paper):
    def __init__(self, cut, spots):
        self.cut = tuple(cut)
        self.spots = tuple(spots)

    def holds(self, floor, free, thing):
        if not isinstance(thing, Bundle) or len(self.cut) >= len(thing.starts):
            return False
        if not in_order(self.cut) or not in_order(self.spots):
            return False
        if how_many(self.cut, self.spots) > 0 or how_many(thing.goals, self.spots) > 0:
            return False
        both = self.cut + self.spots
        if not all_clear(floor, free, both) or how_many(thing.starts, both) < len(thing.starts):
            return False
        return shut_in(floor, free, self.spots, self.cut)


def steps_of(ways):
    steps = []
    for way in ways:
        steps.extend([(min(one, two), max(one, two)) for one, two in zip(way, way[1:])])
    return sorted(steps)


def heights_of(floor, free, flow):
    pairs = [(spot, (flow.low(spot), flow.high(spot))) for spot in free if floor.is_open(spot)]
    return dict([(spot, pair) for spot, pair in pairs if pair != (flow.depth, flow.depth)])


def bundled(floor, free, bundle):
    flow = Flow(floor, free, bundle.starts, bundle.goals)
    going = True
    while going and flow.many() < len(bundle.starts):
        going = flow.more()
    if not going:
        return CutPaper(flow.cut_spots(), flow.shore_spots())
    wires = steps_of(flow.ways())
    return BundlePaper(wires, floor.wiring_price(wires), flow.depth, heights_of(floor, free, flow))
