"""Programs: a book, functions of their own, and a line at which their runs start."""

from saidanew.building import body_of_function, tree_of_tokens
from saidanew.forms import Parser
from saidanew.reading import reading
from saidanew.rows import ARROW
from saidanew.steps import state_of
from saidanew.tokens import spaced, token_rows


class Program:
    """A program over a book. It never changes.

    Its text is taken to be right: what it is refused for is not looked at yet.
    """

    def __init__(self, book, text):
        rows = token_rows(text)
        functions = [parts_of_function(tokens) for tokens in rows[:-1]]
        self._book = book
        self._own_functions = tuple(sorted([name for name, _, _ in functions]))
        self._bodies = {}
        for name in book.functions:
            many = len(book.lexicon.function_rows[name].parameters)
            self._bodies[name] = (many, reading(book, body_of_function(book.lexicon, name)))
        for name, parameters, tokens in functions:
            tree = tree_of_tokens(tokens, book.lexicon, self._own_functions, parameters)
            self._bodies[name] = (len(parameters), reading(book, tree))
        self._start = state_of(self, spaced(rows[-1][1:]))

    def __eq__(self, other):
        if not isinstance(other, Program) or self._book != other._book:
            return False
        return self._bodies == other._bodies and self._start == other._start

    @property
    def book(self):
        """The book."""
        return self._book

    @property
    def functions(self):
        """The names of the program's own functions, ascending."""
        return self._own_functions

    @property
    def start(self):
        """The state of the program's line."""
        return self._start

    def body(self, f):
        """The number of parameters of a function, and the reading of its body under them."""
        return self._bodies[f]


def parts_of_function(tokens):
    """The name of a function, its parameters, and the tokens of its body."""
    parser = Parser(tokens, 1, {})
    name = parser.take_name()
    parameters = parser.take_names(len(tokens))
    parser.take(ARROW)
    return name, parameters, tokens[parser.at:]
