"""What several tests share: plain floors, and the document's words said the slow way."""

import itertools
import re

from wirefloor.answers import Answer
from wirefloor.board import Board
from wirefloor.bundles import BundlePaper, CutPaper
from wirefloor.floor import Floor
from wirefloor.papers import ShorePaper
from wirefloor.things import Bundle, Net
from wirefloor.trees import TreePaper

MOST = 10 ** 12
MOST_WHOLE = 10 ** 18 - 1
NAMES = ["a", "ab", "abc", "a0", "b", "b1", "b10", "b2", "zzzzzzzzzzzz", "to", "laid", "paper"]

NAME = "[a-z][a-z0-9]{0,11}"
NUMBER = "(?:0|[1-9][0-9]{0,17})"
WHOLE = "(?:0|-?[1-9][0-9]{0,17})"
SPOT = rf"{NUMBER}\.{NUMBER}\.{NUMBER}"
STEPS = rf"(?:\nstep {SPOT} {SPOT})*"
TREE = rf"tree {WHOLE}{STEPS}(?:\nhill {WHOLE}(?:\nat {SPOT} {WHOLE})*)*"
BUNDLE = rf"bundle {WHOLE} {WHOLE}{STEPS}(?:\nat {SPOT} {WHOLE} {WHOLE})*"
SHORE = rf"shore(?:\nspot {SPOT})*"
CUT = rf"cut(?:\ncut {SPOT})*(?:\nspot {SPOT})*"
PAPER = f"(?:{TREE}|{BUNDLE}|{SHORE}|{CUT})"
TEXT = re.compile(
    rf"answer (?:rested|open)(?:\nlaid {NAME}{STEPS})*(?:\npaper {NAME} {PAPER})*(?:\nnever {NAME} {PAPER})*")

# A swap leaves two things here that can be bettered.
TWO_BETTERS = """
floor 2 7 6
layer 2 1
layer 3 1
via 3
rock 0.2.3
toll 2 0.0.2
bundle t0 0 1.1.5 0.2.4 to 0.1.1 0.4.4
bundle t2 0 1.0.1 to 0.2.2 1.4.2
bundle t4 0 1.6.3 1.2.1 to 0.2.1 0.4.0
net t5 0 0 0.1.3 1.5.3 1.4.3
net t9 0 0 1.3.3 1.0.2
"""


def spots_in(sizes):
    return list(itertools.product(*[range(size) for size in sizes]))


def prices_for(layers):
    # All prices unlike, so that one taken for another is seen.
    return [(10 + 100 * layer, 13 + 100 * layer) for layer in range(layers)]


def vias_for(layers):
    return [1007 + 1000 * layer for layer in range(layers - 1)]


def plain_floor(sizes, rocks=None, tolls=None):
    return Floor(sizes, prices_for(sizes[0]), vias_for(sizes[0]), rocks, tolls)


def slow_price(prices, vias, rocks, tolls, one, two):
    """The price of the step between two spots inside, or None: by the words of 1.4 alone."""
    differing = [place for place in range(3) if one[place] != two[place]]
    if len(differing) != 1 or abs(one[differing[0]] - two[differing[0]]) != 1:
        return None
    if one in rocks or two in rocks:
        return None
    bare = {
        0: vias[min(one[0], two[0])] if differing[0] == 0 else None,
        1: prices[one[0]][1],
        2: prices[one[0]][0],
    }[differing[0]]
    return bare + tolls.get(one, 0) + tolls.get(two, 0)


def steps_in(floor):
    """All steps of a floor, each once."""
    return [(one, two) for one in floor.open_spots() for two, _ in floor.steps(one) if one < two]


def subsets(steps):
    for many in range(len(steps) + 1):
        for chosen in itertools.combinations(steps, many):
            yield list(chosen)


def line(row, first, last, layer=0):
    """The steps along a row from one column to another."""
    return [((layer, row, column), (layer, row, column + 1)) for column in range(first, last)]


def refused_by(call, *arguments, **named):
    """The error with which a call is refused, or None."""
    try:
        call(*arguments, **named)
    except Exception as error:
        return error
    return None


def slow_apart(one, two):
    if one[0] != two[0]:
        return None
    return max(abs(one[1] - two[1]), abs(one[2] - two[2]))


def slow_fits(sizes, rocks, half, spot):
    """By the words of 2.3: every spot of the square is looked at, inside or not."""
    layer, row, column = spot
    reach = range(-half, half + 1)
    whole = [(layer, row + down, column + right) for down in reach for right in reach]
    return all(near in spots_in(sizes) and near not in rocks for near in whole)


def slow_clash(thing, spot, other, place):
    return spot[0] == place[0] and slow_apart(spot, place) <= thing.half + other.half + max(thing.room, other.room)


def slow_free(floor, thing, others):
    """The spots that are free for a thing beside others, by the words of 2.5."""
    free = []
    for spot in spots_in(floor.sizes):
        clashes = [place for other, spots in others for place in spots if slow_clash(thing, spot, other, place)]
        if slow_fits(floor.sizes, floor.rocks_told(), thing.half, spot) and clashes == []:
            free.append(spot)
    return dict((spot, True) for spot in free)


def random_floor(chance, sizes, rocks=0.1, tolls=0.1, most=20):
    """A floor with prices from 1 to most, and rocks and tolls by chance."""
    prices = [(chance.randint(1, most), chance.randint(1, most)) for _ in range(sizes[0])]
    vias = [chance.randint(1, most) for _ in range(sizes[0] - 1)]
    spots = spots_in(sizes)
    stones = [spot for spot in spots if chance.random() < rocks]
    told = dict((spot, chance.randint(0, most)) for spot in spots if chance.random() < tolls)
    return Floor(sizes, prices, vias, stones, told)


def random_thing(chance, floor, name, nets=0.6):
    """A net or a bundle with its ends somewhere on a floor that has spots enough."""
    spots = chance.sample(floor.open_spots(), min(len(floor.open_spots()), 9))
    room = chance.choice([0, 0, 0, 1, 1, 2, 3])
    if chance.random() < nets:
        half = chance.choice([0, 0, 0, 1, 2])
        return Net(name, spots[:chance.randint(2, min(6, len(spots)))], half, room)
    many = chance.randint(1, min(3, len(spots) // 2))
    return Bundle(name, spots[:many], spots[many:many + chance.randint(many, min(6, len(spots) - many))], room)


def random_board(chance, floor, many, nets=0.6):
    """A board of at most so many things, those left out that it would be refused for."""
    things = []
    for place in range(many):
        thing = random_thing(chance, floor, f"t{many - place}", nets)
        if refused_by(Board, floor, things + [thing]) is None:
            things.append(thing)
    return Board(floor, things)


def steps_over(floor, free):
    """All steps between free spots that are no rocks, each both ways: (one, two, price)."""
    told = []
    for one in free:
        if not floor.is_rock(one):
            told += [(one, two, price) for two, price in floor.steps(one) if two in free]
    return told


def slow_far_over(floor, free, starts):
    """How far each spot is from the starts: prices brought down until nothing changes."""
    far = dict((start, 0) for start in starts)
    steps = steps_over(floor, free)
    changed = True
    while changed:
        changed = False
        for one, two, price in steps:
            if one in far and (two not in far or far[one] + price < far[two]):
                far[two] = far[one] + price
                changed = True
    return far


def free_of(spots):
    return dict((spot, True) for spot in spots)


def ways_from(floor, free, start, goals):
    """All ways from a start to a goal that stop at the first goal, for few free spots."""
    told, waiting = [], [[start]]
    while waiting:
        way = waiting.pop()
        if way[-1] in goals:
            told.append(way)
            continue
        waiting += [way + [spot] for spot, _ in floor.steps(way[-1]) if spot in free and spot not in way]
    return told


def slow_least(floor, free, starts, goals, many):
    """The least price of so many ways that share no spot, each from a start to a goal, or None."""
    def least(left, used, still):
        if still == 0:
            return 0
        if not left:
            return None
        found = [least(left[1:], used, still)]
        for way in ways[left[0]]:
            if not used & set(way):
                rest = least(left[1:], used | set(way), still - 1)
                found.append(None if rest is None else rest + floor.way_price(way))
        return min([price for price in found if price is not None], default=None)

    ways = dict((start, ways_from(floor, free, start, goals)) for start in starts)
    return least(list(starts), set(), many)


def tight_board(chance):
    """A small board of many things with few ends each, so that they come in each other's way."""
    sizes = (chance.choice([1, 2, 2]), chance.randint(3, 7), chance.randint(4, 8))
    floor = random_floor(chance, sizes, 0.05, 0.1, chance.choice([3, 20]))
    things = []
    for place in range(10):
        spots, room = chance.sample(floor.open_spots(), 4), chance.choice([0, 0, 0, 1])
        if chance.random() < 0.75:
            thing = Net(f"t{10 - place}", spots[:chance.choice([2, 2, 2, 3])], 0, room)
        else:
            thing = Bundle(f"t{10 - place}", spots[:chance.choice([1, 2])], spots[2:], room)
        if refused_by(Board, floor, things + [thing]) is None:
            things.append(thing)
    return Board(floor, things)


def rising(values):
    return all(one < two for one, two in zip(values, values[1:]))


def is_answer_text(text):
    if not TEXT.fullmatch(text):
        return False
    for part in ("laid", "paper", "never"):
        if not rising(re.findall(rf"^{part} ({NAME})", text, re.MULTILINE)):
            return False
    # Rows with heights in a row belong to one hill, or to one bundle.
    for rows in re.findall(rf"(?:\nat [^\n]*)+", text):
        spots = [tuple(int(part) for part in row.split(" ")[1].split(".")) for row in rows.strip("\n").split("\n")]
        if not rising(spots):
            return False
    return True


def bad_row(text):
    """The number of the row for which a text is refused, or None."""
    rows = text.split("\n")
    for many in range(1, len(rows) + 1):
        if not is_answer_text("\n".join(rows[:many])):
            return many
    return None


def some_spot(chance):
    return tuple(chance.choice([0, 1, 2, 9, 10, 99, MOST_WHOLE]) for _ in range(3))


def some_whole(chance):
    return chance.choice([0, 1, -1, 7, -12, 10 ** 17, MOST_WHOLE, -MOST_WHOLE, chance.randint(-99, 99)])


def some_steps(chance):
    return [(some_spot(chance), some_spot(chance)) for _ in range(chance.choice([0, 0, 1, 2, 4]))]


def some_spots(chance):
    return [some_spot(chance) for _ in range(chance.choice([0, 0, 1, 2, 5]))]


def some_paper(chance):
    kind = chance.choice(["tree", "bundle", "shore", "cut"])
    if kind == "tree":
        hills = [(some_whole(chance), dict((spot, some_whole(chance)) for spot in some_spots(chance)))
                 for _ in range(chance.randint(0, 3))]
        return TreePaper(some_steps(chance), some_whole(chance), hills)
    if kind == "bundle":
        heights = dict((spot, (some_whole(chance), some_whole(chance))) for spot in some_spots(chance))
        return BundlePaper(some_steps(chance), some_whole(chance), some_whole(chance), heights)
    return ShorePaper(some_spots(chance)) if kind == "shore" else CutPaper(some_spots(chance), some_spots(chance))


def some_names(chance):
    return chance.sample(NAMES, chance.randint(0, 4))


def some_answer(chance):
    return Answer(chance.choice([True, False]), dict((name, some_steps(chance)) for name in some_names(chance)),
                  dict((name, some_paper(chance)) for name in some_names(chance)),
                  dict((name, some_paper(chance)) for name in some_names(chance)))


def paper_told(paper):
    """What a paper keeps, with its kind."""
    if isinstance(paper, TreePaper):
        return ("tree", paper.wires, paper.price, paper.hills)
    if isinstance(paper, BundlePaper):
        return ("bundle", paper.wires, paper.price, paper.depth, paper.heights)
    if isinstance(paper, CutPaper):
        return ("cut", paper.cut, paper.spots)
    return ("shore", paper.spots)


def answer_told(answer):
    return (answer.rested, answer.layout, dict((name, paper_told(paper)) for name, paper in answer.papers.items()),
            dict((name, paper_told(paper)) for name, paper in answer.nevers.items()))


def slow_others(board, layout, name):
    others = []
    for thing in board.things():
        if thing.name != name:
            steps = layout.get(thing.name, [])
            others.append((thing, sorted(set(thing.ends()) | {spot for step in steps for spot in step})))
    return others
