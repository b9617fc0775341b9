"""Books of made words."""

from saidanew.errors import NoPlace
from saidanew.reasons import judged
from saidanew.rows import rows_of


class Book:
    """A book: made words with their rules, and functions. It never changes."""

    def __init__(self, text):
        self._rows = rows_of(text)
        self._texts = [row.written() for row in self._rows]
        self._text = "\n".join(self._texts)
        self.lexicon = judged(self._rows)

    def __eq__(self, other):
        return isinstance(other, Book) and self._text == other._text

    def __len__(self):
        return len(self.lexicon.all_words)

    @property
    def text(self):
        """The text of the book's rows."""
        return self._text

    @property
    def words(self):
        """The words, in order."""
        return self.lexicon.all_words

    @property
    def functions(self):
        """The names of the functions, ascending."""
        return self.lexicon.all_functions

    def rule(self, word, n):
        """The index of the rule that a use with n arguments takes, or None."""
        rule = self.lexicon.rule_for(word, n)
        return None if rule is None else rule.place

    def names(self, word, n):
        """For each of n arguments, whether it is a name argument; None if no rule is taken."""
        return self.lexicon.names_for(word, n)

    def scopes(self, word, n):
        """For each expression argument, in whose scope it stands; None if no rule is taken."""
        return self.lexicon.scopes_for(word, n)

    def with_clear(self, word, rule, path):
        """The book in which this node of a rule's template is clear, too."""
        chosen = self.lexicon.rule_at(word, rule)
        form = None if chosen is None or not path else self.lexicon.form_at(chosen, path)
        if form is None or isinstance(form, str):
            raise NoPlace(path)
        if form.at in chosen.clear_ones:
            return self._with_row(chosen)
        return self._with_row(chosen.with_clear(form.at))

    def _with_row(self, row):
        """The book with this row in the place of one that differs only in what is clear.

        Nothing for which a book is refused rests on what is clear below the
        root of a template, so the rows are neither read nor judged anew.
        """
        book = Book("")
        for known, text in zip(self._rows, self._texts):
            is_chosen = known.kind == "rule" and known.title == row.title and known.place == row.place
            book._rows.append(row if is_chosen else known)
            book._texts.append(row.written() if is_chosen else text)
        book._text = "\n".join(book._texts)
        book.lexicon = self.lexicon.with_row(row)
        return book

    def renamed(self, names):
        """The book with words named anew by a dict."""
        return Book("\n".join([row.written_anew(names) for row in self._rows]))
