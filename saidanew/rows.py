"""The rows of a book, each in its form."""

from saidanew.errors import NoBook, NoText
from saidanew.forms import Parser, REST
from saidanew.names import is_name
from saidanew.tokens import tokens_of

NAME_MARK = "!"
ARROW = "=>"


class Row:
    """A row of a book that has the form of one.

    The kind is the token at its head: `word`, `rule` or `fun`. The title is the
    word or the function; of a rule it is the word that has the rule, and the
    place is the rule's index there. The arguments of a rule are pairs of a name
    and whether it is a name argument; the rest is its name, or None.
    """

    def __init__(self, kind, title, tokens):
        self.kind = kind
        self.title = title
        self.tokens = tokens
        self.place = 0
        self.arguments = []
        self.rest = None
        self.parameters = []
        self.body = None

    def expression_arguments(self):
        """The names of the expression arguments, in order; a rest is none."""
        return [name for name, binds in self.arguments if not binds]

    def name_arguments(self):
        """The names of the name arguments, in order."""
        return [name for name, binds in self.arguments if binds]

    def argument_names(self):
        """The names of all arguments in order, that of the rest last."""
        return [name for name, _ in self.arguments] + self.rest_names()

    def expression_names(self):
        """The names that stand for expressions, so that no binder may have them."""
        return self.expression_arguments() + self.rest_names()

    def rest_names(self):
        """A list of the rest's name, or of nothing."""
        return [] if self.rest is None else [self.rest]


def rows_of(text):
    """The rows of a book's text; raises NoBook for the first one that has no form."""
    lines = [tokens_of(line) for line in text.split("\n")]
    lines = [tokens for tokens in lines if tokens]
    rows = []
    word = None
    place = 0
    for at, tokens in enumerate(lines):
        row = _row(tokens)
        if row is None:
            raise NoBook(at, "form")
        if row.kind == "word":
            if not _has_rule(lines, at):
                raise NoBook(at, "form")
            word = row.title
            place = 0
        elif row.kind == "rule":
            if word is None:
                raise NoBook(at, "form")
            row.title = word
            row.place = place
            place += 1
        rows.append(row)
    return rows


def _has_rule(lines, at):
    """Whether a row that begins with `rule` belongs to the word at this line."""
    for tokens in lines[at + 1:]:
        if tokens[0] == "rule":
            return True
        if tokens[0] == "word":
            return False
    return False


def _row(tokens):
    """The row of these tokens, or None if they have not the form of one."""
    try:
        if tokens[0] == "word":
            return _word_row(tokens)
        if tokens[0] == "rule":
            return _rule_row(tokens)
        if tokens[0] == "fun":
            return _function_row(tokens)
    except NoText:
        return None
    return None


def _word_row(tokens):
    if len(tokens) != 2 or not is_name(tokens[1]):
        return None
    return Row("word", tokens[1], tokens)


def _rule_row(tokens):
    if ARROW not in tokens:
        return None
    arrow = tokens.index(ARROW)
    row = Row("rule", None, tokens)
    if not _take_arguments(row, tokens[1:arrow]):
        return None
    row.body = Parser(tokens, arrow + 1, rest=row.rest, stars=True).last_expression()
    return row


def _take_arguments(row, tokens):
    """Gives a row of a rule its arguments; whether these tokens are such."""
    names = list(tokens)
    if tokens and tokens[-1].startswith(REST):
        row.rest = names.pop()[len(REST):]
    for token in names:
        binds = token.startswith(NAME_MARK)
        row.arguments.append((token[1:] if binds else token, binds))
    return len(tokens) > 0 and all([is_name(name) for name in row.argument_names()])


def _function_row(tokens):
    parser = Parser(tokens, 1)
    row = Row("fun", parser.take_name(), tokens)
    # More parameters than the document's bound are no error here, so any number may stand.
    row.parameters = parser.take_names(len(tokens))
    parser.take(ARROW)
    row.body = parser.last_expression()
    return row
