"""Spots: which lie inside given sizes, their numbers, and how far they are apart."""

from wirefloor.errors import OutOfFloor


def inside(sizes, spot):
    layers, rows, columns = sizes
    layer, row, column = spot
    return 0 <= layer < layers and 0 <= row < rows and 0 <= column < columns


def number_of(sizes, spot):
    if not inside(sizes, spot):
        raise OutOfFloor(f"{spot} does not lie inside {sizes}")
    layer, row, column = spot
    return (layer * sizes[1] + row) * sizes[2] + column


def spot_of(sizes, number):
    layers, rows, columns = sizes
    if not 0 <= number < layers * rows * columns:
        raise OutOfFloor(f"no spot inside {sizes} has the number {number}")
    rest, column = divmod(number, columns)
    layer, row = divmod(rest, rows)
    return (layer, row, column)


def apart(one, two):
    if one[0] != two[0]:
        return None
    return max(abs(one[1] - two[1]), abs(one[2] - two[2]))


def square(sizes, spot, reach):
    layer, row, column = spot
    # Cut off first: a floor, or a reach, may be far greater than the square.
    top = max(0, row - reach)
    bottom = min(sizes[1] - 1, row + reach)
    left = max(0, column - reach)
    right = min(sizes[2] - 1, column + reach)
    spots = []
    for one in range(top, bottom + 1):
        spots.extend([(layer, one, two) for two in range(left, right + 1)])
    return spots
