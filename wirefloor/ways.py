"""Ways over free spots, and the hills that show that none is cheaper."""

from wirefloor.spread import spread, way_back


def leads_in(floor, free):
    leads = {}
    for spot in free:
        leads[spot] = [(other, price) for other, price in floor.steps(spot) if other in free]
    return leads


def arcs_in(floor, free):
    leads = leads_in(floor, free)
    return lambda spot: list(leads.get(spot, []))


def height(hill, spot):
    top, heights = hill
    return heights.get(spot, top)


def climbed(hills, one, two):
    return sum([abs(height(hill, one) - height(hill, two)) for hill in hills])


def cheapest(floor, free, starts, goals):
    far, back = spread(arcs_in(floor, free), [(start, 0) for start in starts])
    found = [(far[goal], goal) for goal in goals if goal in far]
    if len(found) == 0:
        return ("shore", sorted(far))
    top, goal = min(found)
    heights = dict([(spot, price) for spot, price in far.items() if price < top])
    return ("way", way_back(back, goal), (top, heights))
