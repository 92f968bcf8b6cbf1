"""[9.2], [9.3], and [0.1] to [0.4] over the whole program."""

import inspect
import random
import unittest

from tests.helpers import MOST, TWO_BETTERS, random_board, random_floor, refused_by, spots_in, tight_board
from wirefloor.answer_reader import read_answer
from wirefloor.answers import Answer, answer_text
from wirefloor.errors import BadAnswer, BadPrice, BadRow, BadSize, BadThing, Crowded, NoFit, OutOfFloor, Twice
from wirefloor.floor import Floor
from wirefloor.judge import answer_good
from wirefloor.reader import read_board
from wirefloor.settle import settle
from wirefloor.whole import answered, looked
from wirefloor.writer import written

PAGE = "floor 1 1 4\nlayer 1 1\nnet a 0 0 0.0.0 0.0.2"
ANSWER = """answer rested
laid a
step 0.0.0 0.0.1
step 0.0.1 0.0.2
paper a tree 2
step 0.0.0 0.0.1
step 0.0.1 0.0.2
hill 2
at 0.0.0 0
hill 2
at 0.0.2 0"""

REFUSED = [
    ("", BadRow), ("x", BadRow), ("floor 1 1 1\nlayer 1", BadRow), ("floor 1 1 1", BadSize),
    ("floor 1 1 17\nlayer 1 1", BadSize),
    ("floor 1 1 1\nlayer 0 1", BadPrice), ("floor 1 1 1\nlayer 1 1\nrock 0.0.1", OutOfFloor),
    ("floor 1 1 2\nlayer 1 1\nnet A 0 0 0.0.0 0.0.1", BadThing),
    ("floor 1 1 4\nlayer 1 1\nnet a 0 0 0.0.0 0.0.1\nnet a 0 0 0.0.2 0.0.3", Twice),
    ("floor 1 1 2\nlayer 1 1\nnet a 0 0 0.0.0 0.0.2", NoFit),
    ("floor 1 1 4\nlayer 1 1\nnet a 0 0 0.0.0 0.0.1\nnet b 0 0 0.0.1 0.0.3", Crowded),
]


def class_of(error):
    return None if error is None else error.__class__


class Answering(unittest.TestCase):
    def test_a_small_page(self):
        self.assertEqual(answered(PAGE), ANSWER)
        self.assertEqual(looked(PAGE, ANSWER), [])

    def test_it_is_the_text_of_what_comes_of_settling(self):
        chance = random.Random(36)
        for _ in range(20):
            page = written(tight_board(chance))
            for most in (0, 1, 40):
                settled = settle(read_board(page), most)
                answer = Answer(settled.rested, settled.layout, settled.papers, settled.nevers)
                self.assertEqual(answered(page, most), answer_text(answer))
            self.assertEqual(answered(page), answered(text=page, most=40))

    def test_forty_where_it_is_left_out(self):
        self.assertEqual(inspect.signature(answered).parameters["most"].default, 40)

    def test_pages_that_are_refused(self):
        for page, error in REFUSED:
            self.assertEqual(class_of(refused_by(answered, page)), error, page)
            self.assertEqual(class_of(refused_by(answered, page, 0)), error, page)
            self.assertEqual(class_of(refused_by(looked, page, ANSWER)), error, page)

    def test_the_page_is_refused_ahead_of_the_answer(self):
        for page, error in REFUSED:
            self.assertEqual(class_of(refused_by(looked, page, "x")), error, page)
        self.assertEqual(refused_by(answered, "\n\nx").row, 3)
        self.assertEqual(refused_by(looked, "\n\nx", "").row, 3)

    def test_answers_that_are_refused(self):
        for text, row in (("", 1), ("x", 1), ("answer", 1), (ANSWER + "\n", 12), (ANSWER + " ", 11),
                          ("answer open\nlaid A", 2)):
            error = refused_by(looked, PAGE, text)
            self.assertEqual((class_of(error), error.row), (BadAnswer, row), text)

    def test_what_judging_finds(self):
        self.assertEqual(looked(PAGE, "answer rested"), [("bare", "a")])
        self.assertEqual(looked(PAGE, "answer open\nlaid a\nstep 0.0.0 0.0.1"), [("shape", "a")])
        self.assertEqual(looked(text=PAGE, answer_rows="answer open\nlaid q"), [("stranger", "q"), ("bare", "a")])
        self.assertEqual(looked(PAGE, ANSWER.replace("hill 2", "hill 1", 1)), [("paper", "a")])
        self.assertEqual(looked(PAGE, ANSWER.replace("rested", "open")), [])
        self.assertEqual(looked("floor 1 1 4\nlayer 1 2", ANSWER), [("stranger", "a"), ("stranger", "a")])

    def test_remarks_and_blanks_in_the_page(self):
        page = " ; x\n\n  floor 1   1 4 ;y\nlayer 1 1\n\nnet a 0 0 0.0.0 0.0.2\n"
        self.assertEqual(answered(page), ANSWER)
        self.assertEqual(looked(page, ANSWER), [])


class Good(unittest.TestCase):
    def check(self, page, most=None):
        text = answered(page) if most is None else answered(page, most)
        self.assertEqual(looked(page, text), [])
        answer = read_answer(text)
        self.assertTrue(answer_good(read_board(page), answer))
        self.assertEqual(answer_text(answer), text)
        self.assertEqual(text, answered(page) if most is None else answered(page, most))
        return answer

    def test_no_things(self):
        self.assertEqual(answered("floor 1 1 1\nlayer 1 1"), "answer rested")
        self.check("floor 1 1 1\nlayer 1 1")
        self.check("floor 1 1 1\nlayer 1 1\nrock 0.0.0")

    def test_tight_boards(self):
        chance = random.Random(37)
        rested = {True: 0, False: 0}
        for _ in range(40):
            page = written(tight_board(chance))
            for most in (None, chance.choice([0, 1, 2])):
                rested[self.check(page, most).rested] += 1
        self.assertGreater(rested[True], 40)

    def test_boards_that_are_left_open(self):
        self.assertEqual([self.check(TWO_BETTERS, most).rested for most in (0, 1, 2, None)], [False, False, True, True])

    def test_wide_things_and_rooms(self):
        chance = random.Random(38)
        for _ in range(60):
            sizes = (chance.randint(1, 3), chance.randint(3, 9), chance.randint(3, 9))
            floor = random_floor(chance, sizes, 0.05, 0.2, chance.choice([1, 20, MOST]))
            self.check(written(random_board(chance, floor, 6, 0.6)), chance.choice([None, 0, 1, 2]))

    def test_the_greatest_floor_and_prices(self):
        chance = random.Random(39)
        sizes = (4, 16, 16)
        floor = Floor(sizes, [(MOST, MOST - layer) for layer in range(4)], [MOST] * 3,
                      [spot for spot in spots_in(sizes) if chance.random() < 0.2],
                      dict((spot, MOST - chance.randint(0, 5)) for spot in spots_in(sizes)))
        self.check(written(random_board(chance, floor, 12, 0.6)))

    def test_twelve_things(self):
        rows = ["floor 2 16 16", "layer 1 2", "layer 2 1", "via 1"]
        rows += [f"net n{place} 0 0 0.{place}.0 0.{15 - place}.15" for place in range(6)]
        rows += [f"bundle b{place} 0 1.0.{place} 1.0.{place + 8} to 1.15.{place} 1.15.{15 - place}"
                 for place in range(6)]
        self.check("\n".join(rows))
