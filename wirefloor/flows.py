"""Flows: ways that share no spot, laid one by one, all of them together as cheap as can be."""

from wirefloor.split import door, gate, rerouted, split_arcs, spot_of_mark
from wirefloor.spread import spread, way_back
from wirefloor.ways import leads_in


class Flow:
    def __init__(self, floor, free, starts, goals):
        self.leads = leads_in(floor, free)
        self.starts = tuple(starts)
        self.goals = tuple(goals)
        self.comes = {}
        self.depth = 0
        # Of gates the lows, of doors the highs. An arc that leads on beside
        # the ways never climbs by more than its price.
        self.levels = dict([(gate(spot), 0) for spot in free] + [(door(spot), 0) for spot in free])

    def flooded(self):
        leads = self.leads
        levels = self.levels
        arcs = split_arcs(lambda spot: leads[spot], self.comes)

        def climbs_spared(mark):
            # Prices less climbs are from nought, as spreading asks for.
            return [(other, price + levels[mark] - levels[other]) for other, price in arcs(mark)]

        # The gates of starts are come to at nought each time, and so stay there.
        return spread(climbs_spared, [(gate(start), 0) for start in self.starts])

    def more(self):
        far, back = self.flooded()
        found = [(far[door(goal)], door(goal)) for goal in self.goals if door(goal) in far]
        if len(found) == 0:
            return False
        climb, last = min(found)
        self.comes = rerouted(self.comes, way_back(back, last))
        self.levels = dict([(mark, level + min(far.get(mark, climb), climb)) for mark, level in self.levels.items()])
        self.depth = self.depth + climb
        return True

    def firsts(self):
        return [start for start in self.starts if start in self.comes]

    def many(self):
        return len(self.firsts())

    def ways(self):
        after = dict([(ahead, spot) for spot, ahead in self.comes.items()])
        ways = []
        for start in self.firsts():
            way = [start]
            while way[-1] in after:
                way.append(after[way[-1]])
            ways.append(way)
        return ways

    def low(self, spot):
        return self.levels[gate(spot)]

    def high(self, spot):
        return self.levels[door(spot)]

    def cut_spots(self):
        # Come to, but not come through: so there is one on each way.
        far, back = self.flooded()
        spots = [spot_of_mark(mark) for mark in far]
        return sorted(set([spot for spot in spots if door(spot) not in far]))

    def shore_spots(self):
        far, back = self.flooded()
        spots = [spot_of_mark(mark) for mark in far]
        return sorted(set([spot for spot in spots if door(spot) in far]))
