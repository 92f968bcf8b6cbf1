"""Hills round parts, between two marks of time."""


def hill_round(far, born, died):
    top = died - born
    heights = {}
    for spot, price in far.items():
        high = min(max(2 * price, born), died) - born
        if high < top:
            heights[spot] = high
    return (top, heights)


def least_far(fars):
    least = {}
    for far in fars:
        for spot, price in far.items():
            if spot not in least or price < least[spot]:
                least[spot] = price
    return least
