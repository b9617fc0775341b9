"""Lines: an expression, and the values of the cells in it."""

from saidanew.errors import NoLine
from saidanew.tokens import CLOSING, OPENING, is_cell, number_of

WHERE = "where"
EQUALS = "="
COMMA = ","


def parts_of_line(tokens):
    """The tokens of a line's expression, and pairs of a cell's number and the tokens of its value."""
    places = signs_outside(tokens)
    pieces = []
    begin = 0
    for at in places + [len(tokens)]:
        pieces.append(tokens[begin:at])
        begin = at + 1
    for at, place in enumerate(places):
        if tokens[place] != wanted_sign(at):
            raise NoLine()
    # Behind the expression there are a cell and its value by turns.
    if len(pieces) % 2 == 0:
        raise NoLine()
    given = []
    for at in range(1, len(pieces), 2):
        if len(pieces[at]) != 1 or not is_cell(pieces[at][0]):
            raise NoLine()
        given.append((number_of(pieces[at][0][1:]), pieces[at + 1]))
    return pieces[0], given


def wanted_sign(at):
    """The sign with this index among those of a line."""
    if at == 0:
        return WHERE
    return EQUALS if at % 2 == 1 else COMMA


def signs_outside(tokens):
    """The indexes of the signs of a line that stand outside of brackets."""
    depth = 0
    found = []
    for at, token in enumerate(tokens):
        if token in OPENING:
            depth += 1
        elif token in CLOSING:
            depth = max(0, depth - 1)
        elif depth == 0 and token in (WHERE, EQUALS, COMMA):
            found.append(at)
    return found
