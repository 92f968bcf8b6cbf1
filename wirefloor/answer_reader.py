"""The reader of answers: row by row, as far as an answer's text may go on."""

from wirefloor.answers import Answer
from wirefloor.bundles import BundlePaper, CutPaper
from wirefloor.errors import BadAnswer
from wirefloor.papers import ShorePaper
from wirefloor.things import is_name
from wirefloor.trees import TreePaper
from wirefloor.wholes import whole_in
from wirefloor.words import spot_in

PARTS = ("laid", "paper", "never")
NUMBERS_OF_KINDS = {"tree": 1, "bundle": 2, "shore": 0, "cut": 0}


def wholes_told(words, many):
    wholes = [whole_in(word) for word in words]
    return None if len(wholes) != many or None in wholes else wholes


def spots_told(words, many):
    spots = [spot_in(word) for word in words]
    return None if len(spots) != many or None in spots else spots


# A wiring or a paper, as far as its rows have come. What it has already tells
# which rows may come next.
class Draft:
    def __init__(self, kind, numbers):
        self.kind = kind
        self.numbers = numbers
        self.wires = []
        self.hills = []
        self.heights = {}
        self.cut = []
        self.spots = []
        self.last = None

    def take_row(self, words):
        if words[0] == "step":
            return self.take_step(words[1:])
        if words[0] == "hill":
            return self.take_hill(words[1:])
        if words[0] == "at":
            return self.take_height(words[1:])
        if words[0] == "cut":
            return self.take_cut(words[1:])
        if words[0] == "spot":
            return self.take_spot(words[1:])
        return False

    def take_step(self, words):
        spots = spots_told(words, 2)
        if self.kind in ("shore", "cut") or spots is None or len(self.hills) > 0 or len(self.heights) > 0:
            return False
        self.wires.append((spots[0], spots[1]))
        return True

    def take_hill(self, words):
        tops = wholes_told(words, 1)
        if self.kind != "tree" or tops is None:
            return False
        self.hills.append((tops[0], {}))
        self.last = None
        return True

    def take_height(self, words):
        spot = spot_in(words[0]) if len(words) > 0 else None
        if spot is None or self.last is not None and spot <= self.last:
            return False
        self.last = spot
        if self.kind == "tree":
            return self.take_hill_height(spot, wholes_told(words[1:], 1))
        return self.take_pair(spot, wholes_told(words[1:], 2))

    def take_hill_height(self, spot, numbers):
        if len(self.hills) == 0 or numbers is None:
            return False
        self.hills[-1][1][spot] = numbers[0]
        return True

    def take_pair(self, spot, numbers):
        if self.kind != "bundle" or numbers is None:
            return False
        self.heights[spot] = (numbers[0], numbers[1])
        return True

    def take_cut(self, words):
        spots = spots_told(words, 1)
        if self.kind != "cut" or spots is None or len(self.spots) > 0:
            return False
        self.cut.extend(spots)
        return True

    def take_spot(self, words):
        spots = spots_told(words, 1)
        if self.kind not in ("shore", "cut") or spots is None:
            return False
        self.spots.extend(spots)
        return True

    def made(self):
        if self.kind == "tree":
            return TreePaper(self.wires, self.numbers[0], self.hills)
        if self.kind == "bundle":
            return BundlePaper(self.wires, self.numbers[0], self.numbers[1], self.heights)
        if self.kind == "cut":
            return CutPaper(self.cut, self.spots)
        return ShorePaper(self.spots)


def draft_told(part, words):
    if part == "laid":
        return Draft("laid", []) if len(words) == 0 else None
    if len(words) == 0 or words[0] not in NUMBERS_OF_KINDS:
        return None
    numbers = wholes_told(words[1:], NUMBERS_OF_KINDS[words[0]])
    return None if numbers is None else Draft(words[0], numbers)


class Reading:
    def __init__(self):
        self.rested = None
        self.part = 0
        self.name = ""
        # For each part the drafts by their names.
        self.drafts = [{}, {}, {}]

    def take_words(self, words):
        if self.rested is None:
            return self.take_first(words)
        if words[0] in PARTS:
            return self.take_head(PARTS.index(words[0]), words[1:])
        draft = self.drafts[self.part].get(self.name)
        return draft is not None and draft.take_row(words)

    def take_first(self, words):
        if words != ["answer", "rested"] and words != ["answer", "open"]:
            return False
        self.rested = words[1] == "rested"
        return True

    def take_head(self, part, words):
        if part < self.part or len(words) == 0 or not is_name(words[0]):
            return False
        if part == self.part and words[0] <= self.name:
            return False
        draft = draft_told(PARTS[part], words[1:])
        if draft is None:
            return False
        self.part = part
        self.name = words[0]
        self.drafts[part][self.name] = draft
        return True

    def answer(self):
        layout = dict([(name, draft.wires) for name, draft in self.drafts[0].items()])
        papers = dict([(name, draft.made()) for name, draft in self.drafts[1].items()])
        nevers = dict([(name, draft.made()) for name, draft in self.drafts[2].items()])
        return Answer(self.rested, layout, papers, nevers)


def read_answer(page):
    reading = Reading()
    for number, row in enumerate(page.split("\n"), start=1):
        # Parted at each single blank: a blank too many leaves a word of no
        # signs, which is never one of those asked for.
        if not reading.take_words(row.split(" ")):
            raise BadAnswer(number)
    return reading.answer()
