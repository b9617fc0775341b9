"""The rows of a book, each in its form."""

from saidanew.errors import NoBook, NoText
from saidanew.forms import forms_in, Parser, REST
from saidanew.names import is_name
from saidanew.tokens import STAR, spaced, token_rows

NAME_MARK = "!"
ARROW = "=>"


class Row:
    """A row of a book that has the form of one; it never changes once it is made.

    The kind is the token at its head: `word`, `rule` or `fun`. The title is the
    word or the function; of a rule it is the word that has the rule, and the
    place is the rule's index there. The tokens are without stars; at the
    indexes of the clear ones a star stands ahead. The arguments of a rule are
    pairs of a name and whether it is a name argument, `binds` tells whether
    there is such a one; the rest is its name, or None, and `rests` is how often
    it stands in the template. The root is the form, or the token, of the
    expression; `uses` and `binders` are all those in it, but without the names
    that uses bind.
    """

    def __init__(self, kind, title, tokens):
        self.kind = kind
        self.title = title
        self.tokens = tokens
        self.clear_ones = ()
        self.place = 0
        self.arguments = ()
        self.binds = False
        self.rest = None
        self.parameters = ()
        self.root = None
        self.uses = ()
        self.binders = ()
        self.rests = 0

    def take_expression(self, parser):
        """Takes the row's expression, and what was found in it, from a parser."""
        self.root = parser.last_expression()
        self.uses = parser.uses
        self.binders = parser.binders
        self.rests = parser.rests

    def with_clear(self, at):
        """The row in which the form at this token is clear, too."""
        row = Row(self.kind, self.title, self.tokens)
        row.clear_ones = self.clear_ones + (at,)
        row.place = self.place
        row.arguments = self.arguments
        row.binds = self.binds
        row.rest = self.rest
        row.parameters = self.parameters
        row.root = self.root
        row.uses = self.uses
        row.binders = self.binders
        row.rests = self.rests
        return row

    def written(self):
        """The text of the row."""
        return self._text_of(self.tokens)

    def written_anew(self, names):
        """The text of the row with words named anew by a dict."""
        tokens = list(self.tokens)
        # The word of a row stands behind the token `word`, that of a use behind its parenthesis.
        places = [1] if self.kind == "word" else [use.at + 1 for use in self.uses]
        for at in places:
            tokens[at] = names.get(tokens[at], tokens[at])
        return self._text_of(tokens)

    def _text_of(self, tokens):
        """The text of tokens without stars, with the stars of this row."""
        if not self.clear_ones:
            return spaced(tokens)
        starred = []
        for at, token in enumerate(tokens):
            if at in self.clear_ones:
                starred.append(STAR)
            starred.append(token)
        return spaced(starred)

    def expression_arguments(self):
        """The names of the expression arguments, in order; a rest is none."""
        return [name for name, binds in self.arguments if not binds]

    def name_arguments(self):
        """The names of the name arguments, in order."""
        return [name for name, binds in self.arguments if binds]

    def expression_names(self):
        """The names that stand for expressions, so that no binder may have them."""
        names = self.expression_arguments()
        return names if self.rest is None else names + [self.rest]


def rows_of(text):
    """The rows of a book's text; raises NoBook for the first one that has no form."""
    lines = token_rows(text)
    leaves = {}
    rows = []
    word = None
    place = 0
    for at, tokens in enumerate(lines):
        row = _row(tokens, leaves)
        if row is None:
            raise NoBook(at, "form")
        if row.kind == "word":
            if not _has_rule(lines, at):
                raise NoBook(at, "form")
            word = row.title
            place = 0
        elif row.kind == "rule":
            if word is None:
                raise NoBook(at, "form")
            row.title = word
            row.place = place
            place += 1
        rows.append(row)
    return rows


def _has_rule(lines, at):
    """Whether a row that begins with `rule` belongs to the word at this line."""
    for tokens in lines[at + 1:]:
        if tokens[0] == "rule":
            return True
        if tokens[0] == "word":
            return False
    return False


def _row(tokens, leaves):
    """The row of these tokens, or None if they have not the form of one."""
    try:
        if tokens[0] == "rule":
            return _rule_row(tokens, leaves)
        if tokens[0] == "word":
            return _word_row(tokens)
        if tokens[0] == "fun":
            return function_row(tokens, leaves)
    except NoText:
        return None
    return None


def _word_row(tokens):
    if len(tokens) != 2 or not is_name(tokens[1]):
        return None
    return Row("word", tokens[1], tokens)


def _rule_row(tokens, leaves):
    if ARROW not in tokens:
        return None
    starless, clear_ones = _without_stars(tokens)
    arrow = starless.index(ARROW)
    row = Row("rule", None, starless)
    row.clear_ones = clear_ones
    if not _take_arguments(row, starless[1:arrow]):
        return None
    rest = None if row.rest is None else REST + row.rest
    parser = Parser(starless, arrow + 1, leaves, rest=rest)
    row.take_expression(parser)
    return row if _stars_stand_right(row) else None


def _stars_stand_right(row):
    """Whether each star stands ahead of the opening parenthesis of a form, and no other star."""
    if not row.clear_ones:
        return True
    if len(set(row.clear_ones)) < len(row.clear_ones):
        return False
    places = [form.at for form in forms_in(row.root)]
    return all([at in places for at in row.clear_ones])


def _without_stars(tokens):
    """The tokens without stars, and the indexes of those at which a star stood ahead."""
    if STAR not in tokens:
        return tokens, ()
    starless = []
    clear_ones = []
    for token in tokens:
        if token == STAR:
            clear_ones.append(len(starless))
        else:
            starless.append(token)
    return starless, tuple(clear_ones)


def _take_arguments(row, tokens):
    """Gives a row of a rule its arguments; whether these tokens are such."""
    arguments = []
    for at, token in enumerate(tokens):
        binds = token.startswith(NAME_MARK)
        name = token[1:] if binds else token
        if at == len(tokens) - 1 and token.startswith(REST):
            name = row.rest = token[len(REST):]
        else:
            arguments.append((name, binds))
        if not is_name(name):
            return False
        row.binds = row.binds or binds
    row.arguments = tuple(arguments)
    return len(tokens) > 0


def function_row(tokens, leaves):
    """The row of a function; raises NoText where its tokens have not the form of one."""
    parser = Parser(tokens, 1, leaves)
    row = Row("fun", parser.take_name(), tokens)
    # More parameters than the document's bound are no error here, so any number may stand.
    row.parameters = parser.take_names(len(tokens))
    parser.take(ARROW)
    row.take_expression(parser)
    return row
