"""The desk: a book and a run, by rows of text."""

from saidanew.books import Book
from saidanew.errors import NoChange, NoKind, NoRow, NoRun
from saidanew.kinds import kind_of_state
from saidanew.papers import why_hidden
from saidanew.programs import Program
from saidanew.reading import turned
from saidanew.steps import line_of, state_of
from saidanew.texts import show_tree
from saidanew.tokens import is_number, number_of, tokens_of
from saidanew.tracks import Track
from saidanew.trees import subtree

MOST = 5000
PART = ";"


class Run:
    """A run at one of its states. It never changes; the earlier one is that ahead of the last change, or None."""

    def __init__(self, track, at, earlier):
        self.track = track
        self.at = at
        self.earlier = earlier

    def moved(self, at):
        """The run at the state with this number."""
        return Run(self.track, at, self.earlier)

    def with_state_behind(self, state):
        """The run with another state behind the present one."""
        return Run(self.track.with_change(self.at, state), self.at + 1, self)

    def present(self):
        """The present state."""
        return self.track.states[self.at]


class Desk:
    """Holds the rows of a book, and perhaps a run."""

    def __init__(self):
        self.book_held = Book("")
        self.run_held = None

    def say(self, row):
        """Does what a row tells, and returns a text."""
        if not isinstance(row, str) or "\n" in row:
            raise NoRow()
        word, _, rest = row.partition(" ")
        if word == "word":
            return self._add(word_rows(rest))
        if word == "fun":
            return self._add([row])
        if word == "run":
            return self._begin(rest)
        if word not in RUN_ROWS and word != "book":
            raise NoRow()
        told = rest if word == "change" else numbers_of(word, rest)
        if word == "book":
            return self.book_held.text.replace("\n", " " + PART + " ")
        if self.run_held is None:
            raise NoRun()
        action = RUN_ROWS[word]
        self.run_held, text = action(self.run_held, told)
        return text

    def trial(self):
        """For a `with` statement: behind its block the desk is as it was ahead of it."""
        return Trial(self)

    def _add(self, rows):
        """Adds rows to the book, which ends a run."""
        self.book_held = Book("\n".join([self.book_held.text] + rows))
        self.run_held = None
        return "kept"

    def _begin(self, line):
        """Begins a run with the state of this line."""
        program = Program(self.book_held, "run 0")
        state = state_of(program, line)
        self.run_held = Run(Track(program, state), 0, None)
        return line_of(program, state)


class Trial:
    """Gives a desk back what it held."""

    def __init__(self, desk):
        self.desk = desk
        self.book_before = None
        self.run_before = None

    def __enter__(self):
        self.book_before = self.desk.book_held
        self.run_before = self.desk.run_held
        return self.desk

    def __exit__(self, kind, value, trace):
        desk = self.desk
        desk.book_held = self.book_before
        desk.run_held = self.run_before


def word_rows(rest):
    """The rows of a word and its rules."""
    parts = [[]]
    for token in tokens_of(rest):
        if token == PART:
            parts.append([])
        else:
            parts[-1].append(token)
    if any([part[:1] != ["rule"] for part in parts[1:]]):
        raise NoRow()
    return [" ".join(["word"] + parts[0])] + [" ".join(part) for part in parts[1:]]


def numbers_of(word, rest):
    """The numbers behind the first word of a row; how many there must be, its word tells."""
    tokens = tokens_of(rest)
    wanted = NUMBERS.get(word, 0)
    if wanted is not None and len(tokens) != wanted:
        raise NoRow()
    numbers = []
    for token in tokens:
        if not is_number(token) or len(token) > len(str(MOST)) or not 0 <= number_of(token) <= MOST:
            raise NoRow()
        numbers.append(number_of(token))
    return tuple(numbers)


def line_or_hidden(run):
    """The line of the present state, or the word for a state that has none."""
    line = line_of(run.track.program, run.present())
    return "hidden" if line is None else line


def gone_to_next(run, numbers):
    """The row `next`."""
    found = run.track.next_shown(run.at, MOST)
    if found is None:
        return run, "none"
    at, line = found
    return run.moved(at), line


def gone_forth(run, numbers):
    """The row `step`."""
    run = run.moved(run.track.farthest(run.at + numbers[0]))
    return run, line_or_hidden(run)


def gone_back(run, numbers):
    """The row `back`."""
    run = run.moved(max(0, run.at - numbers[0]))
    return run, line_or_hidden(run)


def gone_over(run, numbers):
    """The row `over`."""
    run = run.moved(run.track.number_over(run.at, numbers, MOST))
    return run, line_or_hidden(run)


def reason_told(run, numbers):
    """The row `why`."""
    book = run.track.program.book
    state = run.present()
    for tree in (state.term, *state.cells):
        paper = why_hidden(book, tree)
        if paper is not None:
            node = subtree(turned(book, tree), paper[1])
            return run, paper[0] + " " + node[1][-1][0]
    return run, "shown"


def change_made(run, line):
    """The row `change`."""
    program = run.track.program
    state = state_of(program, line)
    return run.with_state_behind(state), line_of(program, state)


def change_taken_back(run, numbers):
    """The row `undo`."""
    if run.earlier is None:
        raise NoChange()
    return run.earlier, "undone"


def said_told(run, numbers):
    """The row `said`."""
    track = run.track
    texts = [show_tree(tree, track.program.book) for tree in track.told[:track.heard[run.at]]]
    return run, " , ".join(texts) if texts else "nothing"


def kind_told(run, numbers):
    """The row `kind`."""
    try:
        return run, kind_of_state(run.track.program, run.present())
    except NoKind:
        return run, "unfit"


def number_told(run, numbers):
    """The row `at`."""
    return run, str(run.at)


# How many numbers stand in a row, where it has any; None is any number.
NUMBERS = {"step": 1, "back": 1, "over": None}
RUN_ROWS = {
    "next": gone_to_next, "step": gone_forth, "back": gone_back, "over": gone_over, "why": reason_told,
    "change": change_made, "undo": change_taken_back, "said": said_told, "kind": kind_told, "at": number_told,
}
