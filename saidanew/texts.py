"""Texts of trees."""

from saidanew.building import tree_of_tokens
from saidanew.names import LETTERS, RESERVED
from saidanew.tokens import spaced, token_of, tokens_of


def read_tree(text, book, functions=()):
    """The bare tree of a text."""
    return tree_of_tokens(tokens_of(text), book.lexicon, functions)


def show_tree(tree, book, functions=()):
    """The text of a closed bare tree."""
    shower = Shower(book.lexicon, functions)
    tokens = []
    waiting = [(tree, (), 0)]
    while waiting:
        piece = waiting.pop()
        if isinstance(piece, str):
            tokens.append(piece)
        else:
            node, around, many = piece
            waiting.extend(shower.pieces(node, around, many)[::-1])
    return spaced(tokens)


class Shower:
    """Tells how nodes are written, and chooses the names of binders."""

    def __init__(self, lexicon, functions):
        self.lexicon = lexicon
        self.taken = lexicon.all_functions + tuple(functions)
        self.free = []
        self.tried = 0

    def pieces(self, node, around, many):
        """The tokens of a node, and its trees with what is around them.

        That is the names of the binders to which names can refer, from the
        innermost one on, and how many binders there are, others included.
        """
        head, _, items = node
        if head == "name":
            return [around[items[0]]]
        if head == "made":
            return ["["] + [(item, around, many) for item in items] + ["]"]
        if head == "use":
            return self._pieces_of_use(items, around, many)
        if head == "fun":
            names = self._names(many, items[0])
            body = (items[1], tuple(names[::-1]) + around, many + len(names))
            return ["(", "fun", "("] + names + [")", body, ")"]
        if head == "let" or head == "try":
            names = self._names(many, 1)
            first = (items[0], around, many)
            second = (items[1], tuple(names) + around, many + 1)
            return ["(", head] + (names + [first] if head == "let" else [first] + names) + [second, ")"]
        token = literal_token(head, items)
        if token is not None:
            return [token]
        return ["(", head] + [(item, around, many) for item in items] + [")"]

    def _pieces_of_use(self, items, around, many):
        """The pieces of a use, which counts as one binder for each name argument around all its expressions."""
        word, n = items[:2]
        binds = self.lexicon.names_for(word, n)
        indexes = [at for at in range(n) if binds[at]]
        names = dict(zip(indexes, self._names(many, len(indexes))))
        placed = dict(names)
        expressions = [at for at in range(n) if not binds[at]]
        for at, item, scope in zip(expressions, items[2:], self.lexicon.scopes_for(word, n)):
            inner = tuple([names[index] for index in scope[::-1]])
            placed[at] = (item, inner + around, many + len(names))
        return ["(", word] + [placed[at] for at in range(n)] + [")"]

    def _names(self, many, wanted):
        """The names of so many binders, one inside the other, with so many binders around the first one."""
        while len(self.free) < many + wanted:
            name = spelled(self.tried)
            self.tried += 1
            if name not in RESERVED and name not in self.taken:
                self.free.append(name)
        return self.free[many:many + wanted]


def spelled(number):
    """The string with this number in the row `a`, .., `z`, `aa`, `ab`, .."""
    letters = ""
    number += 1
    while number > 0:
        number, last = divmod(number - 1, len(LETTERS))
        letters = LETTERS[last] + letters
    return letters


def literal_token(head, items):
    """The token of a literal with a single item, or None for what is none."""
    if head == "int":
        return token_of(items[0])
    if head == "quote":
        return "'" + items[0]
    if head == "flag":
        return "true" if items[0] else "false"
    if head == "global":
        return items[0]
    if head == "ref":
        return "#" + token_of(items[0])
    return None
