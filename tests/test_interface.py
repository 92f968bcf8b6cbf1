"""The interface: every name, argument and default, and what stands under what."""

import importlib
import inspect
import unittest

# By modules in their order: functions and classes with their arguments, methods behind a point.
INTERFACE = """
spots: inside(sizes, spot); number_of(sizes, spot); spot_of(sizes, number); apart(one, two); square(sizes, spot, reach)
floor: Floor(sizes, prices, vias, rocks=None, tolls=None); Floor.layer_prices(); Floor.via_prices(); Floor.rocks_told()
floor: Floor.tolls_told(); Floor.is_rock(spot); Floor.toll_of(spot); Floor.steps(spot); Floor.step_price(one, two)
floor: Floor.way_price(way); Floor.open_spots()
things: Net(name, pins, half=0, room=0); Bundle(name, starts, goals, room=0); Thing.ends(); Thing.sound(floor, wiring)
rooms: fits(floor, thing, spot); clash(thing, spot, other, place); held(thing, wiring); free_for(floor, thing, others)
rooms: barred_by(floor, thing, others, spot)
board: Board(floor, things); Board.things(); Board.thing_named(name)
legal: others_of(board, layout, name); faults(board, layout); legal(board, layout); layout_price(board, layout)
words: rows_of(page); number_in(word); spot_in(word); spot_word(spot)
runs: box(one, two); runs(marks)
reader: read_board(page)
writer: thing_row(thing); written(board)
heap: Heap(); Heap.add(price, mark); Heap.take(); Heap.many()
spread: spread(arcs, starts); way_back(back, mark)
ways: arcs_in(floor, free); height(hill, spot); climbed(hills, one, two); cheapest(floor, free, starts, goals)
papers: Paper(); Paper.holds(floor, free, thing); Paper.is_laid(); ShorePaper(spots)
parts: Parts(many); Parts.together(one, other); Parts.merge(one, other); Parts.many_parts(); taken(links, many)
hills: hill_round(far, born, died); least_far(fars)
trees: pruned(steps, pins); TreePaper(wires, price, hills); joined(floor, free, net)
split: gate(spot); door(spot); spot_of_mark(mark); split_arcs(arcs, comes); rerouted(comes, marks)
flows: Flow(floor, free, starts, goals); Flow.more(); Flow.many(); Flow.ways(); Flow.low(spot); Flow.high(spot)
flows: Flow.cut_spots(); Flow.shore_spots()
bundles: BundlePaper(wires, price, depth, heights); CutPaper(cut, spots); bundled(floor, free, bundle)
deeds: Deed(name); Deed.done(layout); Deed.laid_anew(); Lay(name, wiring); Swap(name, wiring, others)
deeds: Better(name, wiring)
layings: paper_of(board, layout, name); paper_alone(board, name); Try(name, wiring, torn, again, failed, paper)
layings: Try.worked(); tried(board, layout, name)
settle: Settled(layout, deeds, rested, papers, nevers, tries); settle(board, most=40)
wholes: whole_in(word); whole_word(number)
answers: Answer(rested, layout, papers, nevers); paper_rows(paper); answer_text(answer)
answer_reader: read_answer(page)
judge: judged(board, answer); answer_good(board, answer)
whole: answered(text, most=40); looked(text, answer_rows)
"""

UNDER = """
things: Net Thing; Bundle Thing
papers: ShorePaper Paper
trees: TreePaper Paper
bundles: BundlePaper Paper; CutPaper Paper
deeds: Lay Deed; Swap Deed; Better Deed
"""


def entries(text):
    for row in text.strip().split("\n"):
        module, told = row.split(": ")
        for entry in told.split("; "):
            yield importlib.import_module(f"wirefloor.{module}"), entry


def found(module, name):
    here = module
    for part in name.split("."):
        here = getattr(here, part)
    return here


class Interface(unittest.TestCase):
    def test_names_arguments_and_defaults(self):
        for module, entry in entries(INTERFACE):
            name, arguments = entry.rstrip(")").split("(")
            here = found(module, name)
            self.assertEqual(here.__module__, module.__name__, entry)
            told = str(inspect.signature(here))[1:-1] if "." in name or not self.plain(here) else ""
            told = told.removeprefix("self, ").removeprefix("self")
            self.assertEqual(told, arguments, entry)

    def plain(self, here):
        # A class that is made of nothing has no signature of its own.
        return inspect.isclass(here) and here.__init__ is object.__init__

    def test_what_stands_under_what(self):
        for module, entry in entries(UNDER):
            name, base = entry.split(" ")
            bases = found(module, name).__bases__
            self.assertEqual([one.__name__ for one in bases], [base])

    def test_methods_of_those_under_others(self):
        methods = [("things", "Net", "sound"), ("things", "Bundle", "sound"), ("papers", "ShorePaper", "holds"),
                   ("trees", "TreePaper", "holds"), ("bundles", "BundlePaper", "holds"),
                   ("bundles", "CutPaper", "holds"), ("deeds", "Swap", "done"), ("deeds", "Lay", "done"),
                   ("deeds", "Better", "laid_anew")]
        for module, name, method in methods:
            here = found(importlib.import_module(f"wirefloor.{module}"), name)
            above = here.__bases__[0]
            self.assertEqual(inspect.signature(getattr(here, method)), inspect.signature(getattr(above, method)))
