"""All of it: texts that tell boards are answered, and texts of answers are looked at."""

from wirefloor.answer_reader import read_answer
from wirefloor.answers import Answer, answer_text
from wirefloor.judge import judged
from wirefloor.reader import read_board
from wirefloor.settle import settle


def answered(text, most=40):
    settled = settle(read_board(text), most)
    return answer_text(Answer(settled.rested, settled.layout, settled.papers, settled.nevers))


def looked(text, answer_rows):
    board = read_board(text)
    return judged(board, read_answer(answer_rows))
