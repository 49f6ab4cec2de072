"""A desk: requests to a Board, one in a line, and their answers.

A request is told as a tuple: its kind and what it is about. Deeds are told as Board.attempt takes them.
"""

from touchcaps.board import Board
from touchcaps.errors import BadLine, BadText, NoView, Stopped
from touchcaps.rows import is_name, row_text
from touchcaps.rules import Rule
from touchcaps.steps import Step
from touchcaps.values import is_numeral

ALONE = ("row", "common", "unseen", "doubled", "undo")
WITH_NAME = ("use", "forget", "leave", "lift", "shown", "above")


def name_in(text):
    """The text, if it is a NAME; raises BadText() if not."""
    if not is_name(text):
        raise BadText()
    return text


def limit_in(text):
    if text == "none":
        return None
    if not is_numeral(text) or int(text) < 1:
        raise BadText()
    return int(text)


def end_in(text):
    """A Rule, or None for *; raises BadText()."""
    return None if text == "*" else Rule.of(text)


def request_in(line):
    """The request that the line tells; raises BadText()."""
    if line in ALONE:
        return (line,)
    word, _, rest = line.partition(" ")
    if word in WITH_NAME:
        return (word, name_in(rest))
    if word == "do":
        return (word, Rule.of(rest))
    if word == "cut":
        return (word, limit_in(rest))
    name, _, rest = rest.partition(" ")
    return request_about(word, name_in(name), rest)


def request_about(word, name, rest):
    """The same for those with a NAME and something behind it."""
    if word == "view":
        return ("set", name, Rule.of(rest))
    if word == "step":
        return (word, name, Step.of(rest))
    if word == "effect":
        return (word, name, Rule.of(rest))
    if word != "frame" or not rest.startswith("from "):
        raise BadText()
    low, _, high = rest.removeprefix("from ").partition(" .. ")
    return (word, name, end_in(low), end_in(high))


def answer_alone(board, word):
    if word == "undo":
        return "yes" if board.undo() else "no"
    if word == "row":
        return row_text(board.row)
    if word == "common":
        return row_text(board.common())
    return row_text(board.unseen() if word == "unseen" else board.doubled())


def answer(board, request):
    """What is answered to a request, which is done to the Board."""
    if len(request) == 1:
        return answer_alone(board, request[0])
    try:
        if request[0] == "shown":
            return row_text(board.shown(request[1]))
        if request[0] == "above":
            return row_text(board.above(request[1]))
        if request[0] == "effect":
            return board.effect(request[1], request[2])
        board.attempt((request,))
    except NoView:
        return "refused NoView"
    except Stopped as refused:
        return f"refused {refused.raised}"
    return "done"


def answers(text):
    """The answers to the requests of the text; raises BadLine(number) ahead of all answers."""
    if text == "":
        return []
    requests = []
    for number, line in enumerate(text.split("\n")):
        try:
            requests.append(request_in(line))
        except BadText:
            raise BadLine(number)
    board = Board()
    return [answer(board, request) for request in requests]
