"""Parts of marks that are merged, and links that are taken to merge them."""


class Parts:
    def __init__(self, many):
        # Each mark points to one of its part; the one that points to itself
        # stands for the part.
        self.above = list(range(many))
        self.left = many

    def stands_for(self, mark):
        here = mark
        while self.above[here] != here:
            # Pointing past the next one keeps the way short.
            self.above[here] = self.above[self.above[here]]
            here = self.above[here]
        return here

    def together(self, one, other):
        return self.stands_for(one) == self.stands_for(other)

    def merge(self, one, other):
        if self.together(one, other):
            return False
        self.above[self.stands_for(other)] = self.stands_for(one)
        self.left = self.left - 1
        return True

    def many_parts(self):
        return self.left


def taken(links, many):
    parts = Parts(many)
    chosen = []
    for price, one, other in sorted(links):
        if parts.merge(one, other):
            chosen.append((price, one, other))
    return chosen
