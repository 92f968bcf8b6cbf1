"""How a board is settled: by one deed after the other, until none can be done."""

from wirefloor.bundles import BundlePaper
from wirefloor.deeds import Better, Lay, Swap
from wirefloor.layings import paper_alone, paper_of, tried
from wirefloor.trees import TreePaper


class Settled:
    def __init__(self, layout, deeds, rested, papers, nevers, tries):
        self.layout = dict([(name, list(wiring)) for name, wiring in layout.items()])
        self.deeds = list(deeds)
        self.rested = rested
        self.papers = dict(papers)
        self.nevers = dict(nevers)
        self.tries = dict(tries)


def laid_by(paper, wiring, price):
    # The wiring costs no more than the paper's own, so what the paper shows
    # of its own holds of the wiring, too.
    if isinstance(paper, TreePaper):
        return TreePaper(wiring, price, paper.hills)
    return BundlePaper(wiring, price, paper.depth, paper.heights)


# One look at each thing of the board; a deed that can be done is done at once.
class Round:
    def __init__(self, board, layout, most):
        self.board = board
        self.layout = layout
        self.most = most
        self.deeds = []
        self.rested = True
        self.papers = {}
        self.nevers = {}
        self.tries = {}

    def do(self, deed):
        self.deeds.append(deed)
        self.layout = deed.done(self.layout)

    def look_at_left_out(self, name):
        paper = paper_of(self.board, self.layout, name)
        if paper.is_laid():
            self.do(Lay(name, paper.wires))
            return
        self.papers[name] = paper
        alone = paper_alone(self.board, name)
        if not alone.is_laid():
            self.nevers[name] = alone
            return
        attempt = tried(self.board, self.layout, name)
        self.tries[name] = attempt
        if attempt.worked():
            self.do(Swap(name, attempt.wiring, attempt.again))

    def look_at_laid(self, name):
        wiring = self.layout[name]
        price = self.board.floor.wiring_price(wiring)
        paper = paper_of(self.board, self.layout, name)
        if paper.price >= price:
            self.papers[name] = laid_by(paper, wiring, price)
        elif self.most > 0:
            self.most = self.most - 1
            self.do(Better(name, paper.wires))
        else:
            self.rested = False

    def go(self):
        names = [thing.name for thing in self.board.things()]
        for name in names:
            if name not in self.layout:
                self.look_at_left_out(name)
        for name in names:
            if name in self.layout:
                self.look_at_laid(name)


def settle(board, most=40):
    deeds = []
    here = Round(board, {}, most)
    here.go()
    # What a round tells holds at the end only where it did no deed.
    while len(here.deeds) > 0:
        deeds.extend(here.deeds)
        here = Round(board, here.layout, here.most)
        here.go()
    return Settled(here.layout, deeds, here.rested, here.papers, here.nevers, here.tries)
