"""A heap of pairs of a price and a mark, which gives the least one back."""

from wirefloor.errors import NothingLeft


class Heap:
    def __init__(self):
        # No pair is less than the one at half its place: that of its parent.
        self.pairs = []

    def many(self):
        return len(self.pairs)

    def add(self, price, mark):
        pair = (price, mark)
        place = len(self.pairs)
        self.pairs.append(pair)
        while place > 0 and pair < self.pairs[(place - 1) // 2]:
            self.pairs[place] = self.pairs[(place - 1) // 2]
            place = (place - 1) // 2
        self.pairs[place] = pair

    def take(self):
        if len(self.pairs) == 0:
            raise NothingLeft("no pair lies in the heap")
        least = self.pairs[0]
        last = self.pairs.pop()
        if len(self.pairs) > 0:
            self.sink(last)
        return least

    def sink(self, pair):
        # The first place is open now: lesser children move up until the pair
        # may lie where the last of them was.
        pairs = self.pairs
        place = 0
        child = 1
        while child < len(pairs):
            if child + 1 < len(pairs) and pairs[child + 1] < pairs[child]:
                child = child + 1
            if pair <= pairs[child]:
                break
            pairs[place] = pairs[child]
            place = child
            child = 2 * place + 1
        pairs[place] = pair
