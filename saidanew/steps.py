"""States of a run, and their steps and lines."""

from saidanew.building import tree_of_tokens
from saidanew.cells import cells_in, numbered
from saidanew.errors import AtEnd, NoLine
from saidanew.filling import filled
from saidanew.lines import parts_of_line
from saidanew.reading import is_turned, reading, turned
from saidanew.texts import show_tree
from saidanew.tokens import tokens_of
from saidanew.trees import put_below
from saidanew.working import is_value, own_step, place_of_catcher, place_of_work


class State:
    """A state of a run: a closed core tree, and the values of its cells, that of cell 1 first."""

    def __init__(self, term, cells=()):
        self.term = term
        self.cells = tuple(cells)

    def __eq__(self, other):
        return isinstance(other, State) and self.term == other.term and self.cells == other.cells


def settled(term, cells):
    """The state with its cells renumbered by first coming, those to which the term does not lead left out."""
    return state_with(term, {at + 1: value for at, value in enumerate(cells)})


def state_with(term, values):
    """The settled state of a term and of a dict from the numbers of cells to their values."""
    tree, cells = numbered(term, values)
    return State(tree, cells)


def step(program, state):
    """The next state, and what is said on the way there, or None."""
    node, above = place_of_work(state.term)
    if node[0] == "raise":
        if not above:
            raise AtEnd()
        return settled(caught(node, above), state.cells), None
    if is_value(node):
        raise AtEnd()
    tree, cells, said = own_step(node, state.cells, program)
    term = put_below(above, tree)
    # Without cells there is nothing to renumber.
    return (settled(term, cells) if cells else State(term)), said


def caught(node, above):
    """The term behind a raise below these nodes: the innermost `try` has caught it, or it is all that is left."""
    at = place_of_catcher(above)
    if at is None:
        return node
    catcher = above[at][0]
    return put_below(above[:at], filled(catcher[2][1], node[2]))


def outcome(state):
    """How a run has ended, with the value or with what was raised; None if the state is not the end."""
    term = state.term
    if is_value(term):
        return ("value", term)
    if term[0] == "raise" and is_value(term[2][0]):
        return ("raised", term[2][0])
    return None


def line_of(program, state):
    """The line of a state that is shown, or None."""
    trees = shown_trees(program.book, state)
    if trees is None:
        return None
    texts = [show_tree(tree, program.book, program.functions) for tree in trees]
    given = ["#" + str(at + 1) + " = " + text for at, text in enumerate(texts[1:])]
    return texts[0] + (" where " + " , ".join(given) if given else "")


def shown_trees(book, state):
    """The term and the cells' values of a state, turned back, if all of them are read by texts; else None."""
    trees = []
    for tree in (state.term,) + state.cells:
        back = turned(book, tree)
        if not is_turned(back):
            return None
        trees.append(back)
    return trees


def state_of(program, text):
    """The state of a line."""
    parts = parts_of_line(tokens_of(text))
    term, given = trees_of_line(program.book, program.functions, parts)
    return state_with_cells(term, given)


def trees_of_line(book, functions, parts):
    """The readings of the parts of a line: of its expression, and of the cells' values in pairs with the numbers."""
    tokens, given = parts
    term = core_of(tokens, book, functions)
    return term, [(number, core_of(value, book, functions)) for number, value in given]


def core_of(tokens, book, functions):
    """The reading of the text of these tokens."""
    return reading(book, tree_of_tokens(tokens, book.lexicon, functions))


def state_with_cells(term, given):
    """The settled state of a term and pairs of a cell's number and its value; raises NoLine for wrong cells."""
    values = {}
    for number, value in given:
        if number in values or not is_value(value):
            raise NoLine()
        values[number] = value
    for tree in [term] + list(values.values()):
        if any([number not in values for number in cells_in(tree)]):
            raise NoLine()
    return state_with(term, values)
