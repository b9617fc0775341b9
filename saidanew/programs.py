"""Programs: a book, functions of their own, and a line at which their runs start."""

from saidanew.building import body_of_function, tree_of_tokens
from saidanew.errors import NoLine, NoProgram, NoText, NoTree
from saidanew.forms import Parser
from saidanew.lines import parts_of_line
from saidanew.reading import reading
from saidanew.rows import ARROW
from saidanew.steps import state_with_cells, trees_of_line
from saidanew.tokens import is_cell, token_rows


class Program:
    """A program over a book. It never changes.

    The trees are those of all functions as they are written, each in a pair
    with the number of parameters. What is found of kinds is kept here.
    """

    def __init__(self, book, text):
        rows = token_rows(text)
        functions, line = parts_of_program(rows)
        refuse_functions_twice(book, functions)
        names = tuple(sorted([name for name, _, _ in functions]))
        own = own_trees(book, functions, names)
        last = len(rows) - 1
        try:
            term, given = trees_of_line(book, names, line)
        except (NoText, NoTree):
            raise NoProgram(last, "text")
        try:
            start = state_with_cells(term, given)
        except NoLine:
            raise NoProgram(last, "cells")
        self._book = book
        self._own_functions = names
        self._start = start
        self.trees = {}
        self._bodies = {}
        for name, (many, tree, core) in bodies_of_book(book).items():
            self.trees[name] = (many, tree)
            self._bodies[name] = (many, core)
        for name, (many, tree) in own.items():
            self.trees[name] = (many, tree)
            self._bodies[name] = (many, reading(book, tree))
        self.known_kinds = None

    def __eq__(self, other):
        if not isinstance(other, Program) or self._book != other._book:
            return False
        return self._bodies == other._bodies and self._start == other._start

    @property
    def book(self):
        """The book."""
        return self._book

    @property
    def functions(self):
        """The names of the program's own functions, ascending."""
        return self._own_functions

    @property
    def start(self):
        """The state of the program's line."""
        return self._start

    def body(self, f):
        """The number of parameters of a function, and the reading of its body under them."""
        return self._bodies[f]


def parts_of_program(rows):
    """The parts of each function's row, and those of the line; raises NoProgram for the first row without a form."""
    functions = []
    for at, tokens in enumerate(rows):
        try:
            if tokens[0] == "run":
                line = parts_of_line(tokens[1:])
                if at < len(rows) - 1:
                    # What stands behind the line is wrong, whatever it is.
                    raise NoProgram(at + 1, "form")
                return functions, line
            functions.append(parts_of_function(tokens))
        except (NoText, NoLine):
            raise NoProgram(at, "form")
    raise NoProgram(len(rows), "form")


def parts_of_function(tokens):
    """The name, the parameters and the tokens of the body of a function; raises NoText where a row has not its form."""
    parser = Parser(tokens, 0, {})
    parser.take("fun")
    name = parser.take_name()
    # More parameters than the document's bound are no error here, so any number may stand.
    parameters = parser.take_names(len(tokens))
    parser.take(ARROW)
    return name, parameters, tokens[parser.at:]


def refuse_functions_twice(book, functions):
    """Raises NoProgram for the first row of a function that was there."""
    known = {name: True for name in book.functions}
    for at, (name, _, _) in enumerate(functions):
        if name in known:
            raise NoProgram(at, "twice")
        known[name] = True


def own_trees(book, functions, names):
    """For each of a program's own functions the number of parameters and the tree of its body."""
    trees = {}
    for at, (name, parameters, tokens) in enumerate(functions):
        try:
            tree = tree_of_tokens(tokens, book.lexicon, names, parameters)
        except (NoText, NoTree):
            raise NoProgram(at, "text")
        if any([is_cell(token) for token in tokens]):
            raise NoProgram(at, "text")
        trees[name] = (len(parameters), tree)
    return trees


def bodies_of_book(book):
    """For each function of a book the number of parameters, the tree of its body, and the reading of this tree."""
    lexicon = book.lexicon
    for name in book.functions:
        if name not in lexicon.bodies:
            tree = body_of_function(lexicon, name)
            many = len(lexicon.function_rows[name].parameters)
            lexicon.bodies[name] = (many, tree, reading(book, tree))
    return dict(lexicon.bodies)
