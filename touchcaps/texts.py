"""Programs, which do steps again and again, and boards, as texts."""

from touchcaps.board import Board
from touchcaps.errors import BadLine, BadText, NoView, Outside
from touchcaps.forms import plain
from touchcaps.rows import is_name, row_of, row_text
from touchcaps.rules import Rule
from touchcaps.steps import Step
from touchcaps.values import is_numeral

DEEPEST = 20


def program_of(text):
    """The plain Rule that a program does; raises BadText() if the text is none."""
    if text == "-":
        return Rule()
    # The steps so far outside of all brackets, and within each bracket that is open, the innermost one last.
    levels = [[]]
    # Each item begins with a step behind some opening brackets: so what "; " parts is one step each.
    for part in text.split("; "):
        rest = part.lstrip("(")
        levels.extend([[] for _ in range(len(part) - len(rest))])
        if len(levels) > DEEPEST + 1:
            raise BadText()
        pieces = rest.split(")")
        levels[-1].append(Step.of(pieces[0]))
        for end in pieces[1:]:
            close_bracket(levels, end)
    if len(levels) > 1:
        raise BadText()
    return plain(Rule(levels[0]))


def close_bracket(levels, end):
    """Does what stands in the innermost brackets as often as the text behind them tells; raises BadText()."""
    if len(levels) == 1 or not end.startswith(" x ") or not is_numeral(end[3:]):
        raise BadText()
    rule = Rule(levels.pop()) * int(end[3:])
    levels[-1].extend(rule.steps)


def board_text(board):
    """The text of the Board."""
    limit = "none" if board.limit is None else board.limit
    return "\n".join([
        row_text(board.row), f"limit {limit}", *[f"{name}: {board[name].text}" for name in board.names],
        *[f"{name} from {end_text(low)} .. {end_text(high)}" for name, low, high in board.frames], "end",
    ])


def end_text(text):
    """How one end of a frame is written."""
    return "*" if text is None else text


def board_in(text):
    """The Board with this text, no deed to take back; raises BadLine(number)."""
    lines = text.split("\n")
    board = Board(row_in(lines[0]))
    if len(lines) > 1:
        board.cut(limit_in(lines[1], len(board.row)))
    # The place of a line is its kind and its NAME: places ascend.
    place = (0, "")
    for number, line in enumerate(lines[2:], start=2):
        if line == "end":
            if number < len(lines) - 1:
                raise BadLine(number + 1)
            return board.fresh()
        try:
            place = take_line(board, line, place)
        except (BadText, NoView, Outside):
            raise BadLine(number)
    raise BadLine(len(lines))


def row_in(line):
    """The ROW of the first line; raises BadLine(number)."""
    try:
        return row_of(line)
    except BadText:
        raise BadLine(0)


def limit_in(line, least):
    """The limit of the second line, which is not less than the row is long; raises BadLine(number)."""
    word = line.removeprefix("limit ")
    if line == "limit none":
        return None
    if word == line or not is_numeral(word) or int(word) < max(least, 1):
        raise BadLine(1)
    return int(word)


def take_line(board, line, place):
    """Takes the line of a view or a frame behind a line at this place; returns its own place.

    Raises BadText(), NoView(name), Outside(name) if it can not stand there.
    """
    name, colon, rest = line.partition(": ")
    if colon == "":
        name, _, rest = line.partition(" from ")
    own = (0 if colon != "" else 1, name)
    if not is_name(name) or own <= place:
        raise BadText()
    if colon != "":
        board[name] = Rule.of(rest)
    else:
        low, _, high = rest.partition(" .. ")
        board.frame(name, end_in(low), end_in(high))
    return own


def end_in(text):
    """A plain Rule, or None for *; raises BadText()."""
    if text == "*":
        return None
    rule = Rule.of(text)
    if plain(rule).text != text:
        raise BadText()
    return rule
