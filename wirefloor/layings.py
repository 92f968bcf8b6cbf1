"""Layings: what is told for a thing by a layout, and tries to lay one in the place of others."""

from wirefloor.bundles import bundled
from wirefloor.legal import others_of
from wirefloor.rooms import clash_at_all, free_for, held
from wirefloor.things import Net
from wirefloor.trees import joined


def paper_of(board, layout, name):
    thing = board.thing_named(name)
    free = free_for(board.floor, thing, others_of(board, layout, name))
    if isinstance(thing, Net):
        return joined(board.floor, free, thing)
    return bundled(board.floor, free, thing)


def paper_alone(board, name):
    return paper_of(board, {}, name)


class Try:
    def __init__(self, name, wiring, torn, again, failed, paper):
        self.name = name
        self.wiring = list(wiring)
        self.torn = list(torn)
        self.again = [(other, list(wires)) for other, wires in again]
        self.failed = failed
        self.paper = paper

    def worked(self):
        return self.failed is None


def torn_by(board, layout, name, wiring):
    thing = board.thing_named(name)
    spots = held(thing, wiring)
    laid = [(other, places) for other, places in others_of(board, layout, name) if other.name in layout]
    return [other.name for other, places in laid if clash_at_all(thing, spots, other, places)]


def tried(board, layout, name):
    wiring = paper_alone(board, name).wires
    torn = torn_by(board, layout, name, wiring)
    left = dict([(other, layout[other]) for other in layout if other not in torn])
    left[name] = wiring
    again = []
    for other in torn:
        paper = paper_of(board, left, other)
        if not paper.is_laid():
            return Try(name, wiring, torn, again, other, paper)
        left[other] = paper.wires
        again.append((other, paper.wires))
    return Try(name, wiring, torn, again, None, None)
