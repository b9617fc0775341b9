"""Books of made words."""

from saidanew.errors import NoPlace
from saidanew.reasons import judged
from saidanew.rows import rows_of
from saidanew.tokens import STAR, spaced


class Book:
    """A book: made words with their rules, and functions. It never changes."""

    def __init__(self, text):
        self._rows = rows_of(text)
        self._lexicon = judged(self._rows)
        self._text = text_of([row.tokens for row in self._rows])

    def __eq__(self, other):
        return isinstance(other, Book) and self._text == other._text

    def __len__(self):
        return len(self._lexicon.all_words)

    @property
    def text(self):
        """The text of the book's rows."""
        return self._text

    @property
    def words(self):
        """The words, in order."""
        return self._lexicon.all_words

    @property
    def functions(self):
        """The names of the functions, ascending."""
        return self._lexicon.all_functions

    def rule(self, word, n):
        """The index of the rule that a use with n arguments takes, or None."""
        rule = self._lexicon.rule_for(word, n)
        return None if rule is None else rule.place

    def names(self, word, n):
        """For each of n arguments, whether it is a name argument; None if no rule is taken."""
        return self._lexicon.names_for(word, n)

    def scopes(self, word, n):
        """For each expression argument, in whose scope it stands; None if no rule is taken."""
        return self._lexicon.scopes_for(word, n)

    def with_clear(self, word, rule, path):
        """The book in which this node of a rule's template is clear, too."""
        chosen = self._lexicon.rule_at(word, rule)
        if chosen is None or not path:
            raise NoPlace(path)
        form = self._lexicon.form_at(chosen, path)
        if form is None or not form.is_in_parentheses():
            raise NoPlace(path)
        tokens = []
        for row in self._rows:
            is_chosen = row.kind == "rule" and row.title == word and row.place == rule
            if is_chosen and not form.is_clear:
                tokens.append(row.tokens[:form.at] + [STAR] + row.tokens[form.at:])
            else:
                tokens.append(row.tokens)
        return Book(text_of(tokens))

    def renamed(self, names):
        """The book with words named anew by a dict."""
        return Book(text_of([renamed_tokens(row, names) for row in self._rows]))


def text_of(rows):
    """The text of a book of these rows of tokens."""
    return "\n".join([spaced(tokens) for tokens in rows])


def renamed_tokens(row, names):
    """The tokens of a row in which words are named anew."""
    tokens = list(row.tokens)
    # The word of a row stands behind the token `word`, that of a use behind its parenthesis.
    places = [1] if row.kind == "word" else [use.at + 1 for use in row.body.uses()]
    for at in places:
        tokens[at] = names.get(tokens[at], tokens[at])
    return tokens
