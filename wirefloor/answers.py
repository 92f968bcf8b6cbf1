"""Answers, and how they are written."""

from wirefloor.bundles import BundlePaper, CutPaper
from wirefloor.trees import TreePaper
from wirefloor.wholes import whole_word
from wirefloor.words import spot_word


class Answer:
    def __init__(self, rested, layout, papers, nevers):
        self.rested = rested
        self.layout = dict([(name, list(wiring)) for name, wiring in layout.items()])
        self.papers = dict(papers)
        self.nevers = dict(nevers)


def row_with(kind, words):
    return " ".join([kind] + words)


def step_rows(wiring):
    return [row_with("step", [spot_word(one), spot_word(two)]) for one, two in wiring]


def spot_rows(kind, spots):
    return [row_with(kind, [spot_word(spot)]) for spot in spots]


def hill_rows(hill):
    top, heights = hill
    rows = [row_with("hill", [whole_word(top)])]
    rows.extend([row_with("at", [spot_word(spot), whole_word(heights[spot])]) for spot in sorted(heights)])
    return rows


def height_row(spot, pair):
    low, high = pair
    return row_with("at", [spot_word(spot), whole_word(low), whole_word(high)])


def tree_rows(paper):
    rows = step_rows(paper.wires)
    for hill in paper.hills:
        rows.extend(hill_rows(hill))
    return rows


def bundle_rows(paper):
    return step_rows(paper.wires) + [height_row(spot, paper.heights[spot]) for spot in sorted(paper.heights)]


def paper_rows(paper):
    if isinstance(paper, TreePaper):
        return (row_with("tree", [whole_word(paper.price)]), tree_rows(paper))
    if isinstance(paper, BundlePaper):
        return (row_with("bundle", [whole_word(paper.price), whole_word(paper.depth)]), bundle_rows(paper))
    if isinstance(paper, CutPaper):
        return ("cut", spot_rows("cut", paper.cut) + spot_rows("spot", paper.spots))
    return ("shore", spot_rows("spot", paper.spots))


def rows_by_name(part, papers):
    rows = []
    for name in sorted(papers):
        kind, behind = paper_rows(papers[name])
        rows.append(row_with(part, [name, kind]))
        rows.extend(behind)
    return rows


def answer_text(answer):
    rows = ["answer rested" if answer.rested else "answer open"]
    for name in sorted(answer.layout):
        rows.append(row_with("laid", [name]))
        rows.extend(step_rows(answer.layout[name]))
    rows.extend(rows_by_name("paper", answer.papers))
    rows.extend(rows_by_name("never", answer.nevers))
    return "\n".join(rows)
