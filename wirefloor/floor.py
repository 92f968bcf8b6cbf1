"""The floor: its layers, rocks and tolls, and the steps between its spots."""

from wirefloor.errors import BadPrice, BadSize, NotAStep, OutOfFloor
from wirefloor.spots import inside, spot_of

MOST_SIZES = (4, 16, 16)
MOST_PRICE = 1000000000000


def check_sizes(sizes, prices, vias):
    for size, most in zip(sizes, MOST_SIZES):
        if not 1 <= size <= most:
            raise BadSize(f"sizes {sizes}: {size} is not from 1 to {most}")
    if len(prices) != sizes[0]:
        raise BadSize("not as many pairs of prices as layers")
    if len(vias) != sizes[0] - 1:
        raise BadSize("not one via fewer than layers")


def check_price(price, least):
    if not least <= price <= MOST_PRICE:
        raise BadPrice(f"{price} is not from {least} to {MOST_PRICE}")


def check_prices(prices, vias, tolls):
    for ahead, across in prices:
        check_price(ahead, 1)
        check_price(across, 1)
    for price in vias:
        check_price(price, 1)
    for toll in tolls.values():
        check_price(toll, 0)


def check_inside(sizes, spot):
    if not inside(sizes, spot):
        raise OutOfFloor(f"{spot} does not lie inside {sizes}")


def neighbours(one, two):
    return abs(one[0] - two[0]) + abs(one[1] - two[1]) + abs(one[2] - two[2]) == 1


def spots_round(spot):
    layer, row, column = spot
    # Written in the order of spots, so that steps need no sorting.
    return [
        (layer - 1, row, column),
        (layer, row - 1, column),
        (layer, row, column - 1),
        (layer, row, column + 1),
        (layer, row + 1, column),
        (layer + 1, row, column),
    ]


class Floor:
    def __init__(self, sizes, prices, vias, rocks=None, tolls=None):
        told_rocks = [] if rocks is None else rocks
        told_tolls = {} if tolls is None else tolls
        check_sizes(sizes, prices, vias)
        check_prices(prices, vias, told_tolls)
        for spot in told_rocks:
            check_inside(sizes, spot)
        for spot in told_tolls:
            check_inside(sizes, spot)
        self.sizes = sizes
        self.prices = [(ahead, across) for ahead, across in prices]
        self.vias = list(vias)
        self.rocks = dict([(spot, True) for spot in told_rocks])
        self.tolls = dict(told_tolls)

    def layer_prices(self):
        return list(self.prices)

    def via_prices(self):
        return list(self.vias)

    def rocks_told(self):
        return sorted(self.rocks)

    def tolls_told(self):
        return [(spot, self.tolls[spot]) for spot in sorted(self.tolls) if self.tolls[spot] != 0]

    def is_rock(self, spot):
        check_inside(self.sizes, spot)
        return spot in self.rocks

    def toll_of(self, spot):
        check_inside(self.sizes, spot)
        return self.tolls.get(spot, 0)

    def is_open(self, spot):
        return inside(self.sizes, spot) and spot not in self.rocks

    def is_step(self, one, two):
        return neighbours(one, two) and self.is_open(one) and self.is_open(two)

    def priced(self, one, two):
        tolls = self.tolls.get(one, 0) + self.tolls.get(two, 0)
        if one[0] != two[0]:
            return self.vias[min(one[0], two[0])] + tolls
        ahead, across = self.prices[one[0]]
        return (ahead if one[1] == two[1] else across) + tolls

    def steps(self, spot):
        if self.is_rock(spot):
            return []
        return [(other, self.priced(spot, other)) for other in spots_round(spot) if self.is_open(other)]

    def step_price(self, one, two):
        check_inside(self.sizes, one)
        check_inside(self.sizes, two)
        if not self.is_step(one, two):
            raise NotAStep(f"there is no step from {one} to {two}")
        return self.priced(one, two)

    def way_price(self, way):
        return sum([self.step_price(one, two) for one, two in zip(way, way[1:])])

    def wiring_price(self, wiring):
        return sum([self.step_price(one, two) for one, two in wiring])

    def open_spots(self):
        layers, rows, columns = self.sizes
        spots = [spot_of(self.sizes, number) for number in range(layers * rows * columns)]
        return [spot for spot in spots if spot not in self.rocks]
