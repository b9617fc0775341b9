"""The errors of the package. Each keeps what it was created with."""


class SaidError(ValueError):
    """The base class of all errors here."""


class NoBook(SaidError):
    """A text is no book: the row that is wrong, and the reason."""

    def __init__(self, row, why):
        self.row = row
        self.why = why


class NoText(SaidError):
    """A text has not the form of an expression: the token that cannot follow."""

    def __init__(self, at):
        self.at = at


class NoTree(SaidError):
    """A text has the form of an expression, but a node of it is wrong."""

    def __init__(self, path):
        self.path = path


class NoProgram(SaidError):
    """A text is no program: the row that is wrong, and the reason."""

    def __init__(self, row, why):
        self.row = row
        self.why = why


class NoLine(SaidError):
    """A text has not the form of a line, or its cells are wrong."""


class NoKind(SaidError):
    """A tree does not fit: the first node whose demands cannot be met."""

    def __init__(self, path):
        self.path = path


class NoPlace(SaidError):
    """A path does not lead to what was asked for."""

    def __init__(self, path):
        self.path = path


class TooMany(SaidError):
    """So many steps were not enough."""

    def __init__(self, most):
        self.most = most


class AtEnd(SaidError):
    """There is no step behind the end of a run."""


class NoRow(SaidError):
    """A desk does not know such a row."""


class NoRun(SaidError):
    """A desk has no run."""


class NoChange(SaidError):
    """A desk has no change that could be taken back."""
