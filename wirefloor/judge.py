"""The judge: what is wrong with an answer on a board, whoever made it."""

from wirefloor.legal import faults, others_of
from wirefloor.rooms import free_for


def free_by(board, layout, thing):
    return free_for(board.floor, thing, others_of(board, layout, thing.name))


def laid_faults(board, answer, thing):
    if thing.name not in answer.papers:
        return [("bare", thing.name)] if answer.rested else []
    paper = answer.papers[thing.name]
    if not paper.is_laid() or paper.wires != answer.layout[thing.name]:
        return [("paper", thing.name)]
    if not paper.holds(board.floor, free_by(board, answer.layout, thing), thing):
        return [("paper", thing.name)]
    return []


def shuts_in(board, layout, thing, paper):
    return not paper.is_laid() and paper.holds(board.floor, free_by(board, layout, thing), thing)


def left_out_faults(board, answer, thing):
    found = []
    if thing.name not in answer.papers:
        found.append(("bare", thing.name))
    elif not shuts_in(board, answer.layout, thing, answer.papers[thing.name]):
        found.append(("paper", thing.name))
    if thing.name in answer.nevers and not shuts_in(board, {}, thing, answer.nevers[thing.name]):
        found.append(("never", thing.name))
    return found


def thing_faults(board, answer):
    found = []
    for thing in board.things():
        if thing.name in answer.layout:
            found.extend(laid_faults(board, answer, thing))
        else:
            found.extend(left_out_faults(board, answer, thing))
    return found


def paper_strangers(board, answer):
    names = [name for name in list(answer.papers) + list(answer.nevers) if board.thing_named(name) is None]
    names.extend([name for name in answer.nevers if name in answer.layout])
    return [("stranger", name) for name in sorted(set(names))]


def judged(board, answer):
    return faults(board, answer.layout) + thing_faults(board, answer) + paper_strangers(board, answer)


def answer_good(board, answer):
    return len(judged(board, answer)) == 0
