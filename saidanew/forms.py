"""Forms: expressions as they are written, and the parser that finds them among tokens."""

from saidanew.errors import NoText
from saidanew.names import is_name
from saidanew.tokens import STAR, is_number
from saidanew.trees import MOST_PARAMETERS

# What stands behind a head: a binder's name, the names of parameters, a tree, or trees up to the end.
SLOTS = {
    "fun": ("names", "tree"),
    "call": ("tree", "trees"),
    "let": ("name", "tree", "tree"),
    "try": ("tree", "name", "tree"),
    "if": ("tree", "tree", "tree"),
    "do": ("tree",), "not": ("tree",), "first": ("tree",), "rest": ("tree",), "none": ("tree",),
    "cell": ("tree",), "get": ("tree",), "raise": ("tree",), "say": ("tree",),
    "seq": ("tree", "tree"), "plus": ("tree", "tree"), "minus": ("tree", "tree"),
    "times": ("tree", "tree"), "less": ("tree", "tree"), "same": ("tree", "tree"),
    "put": ("tree", "tree"), "set": ("tree", "tree"),
    "list": ("trees",),
}
SLOTS_OF_USE = ("trees",)
# The head of the place where a rest stands; no head of a tree is written so.
REST = ".."


class Form:
    """A node of an expression as it is written.

    The head is that of the tree, or REST. The word is the token of what stands
    without parentheses, and the made word of a use. The token at which the form
    begins is that of its parenthesis, also if a star stands ahead of it.
    """

    def __init__(self, head, word, at):
        self.head = head
        self.word = word
        self.at = at
        self.is_clear = False
        self.binders = []
        self.parts = []

    def is_in_parentheses(self):
        """Whether the node is written in parentheses."""
        return self.head in SLOTS or self.head == "use"

    def ends_in_rest(self):
        """Whether the last part is the place of a rest."""
        return len(self.parts) > 0 and self.parts[-1].head == REST

    def all_forms(self):
        """This form and all forms inside of it, also those in the place of a name."""
        found = []
        waiting = [self]
        while waiting:
            form = waiting.pop()
            found.append(form)
            waiting.extend(form.parts)
        return found

    def uses(self):
        """All uses among these forms."""
        return [form for form in self.all_forms() if form.head == "use"]


class Parser:
    """Takes what is expected off a list of tokens, or raises NoText where it does not follow.

    The rest is the name behind the two dots that may stand there, or None.
    """

    def __init__(self, tokens, at, rest=None, stars=False):
        self.tokens = tokens
        self.at = at
        self.rest_token = None if rest is None else REST + rest
        self.stars = stars

    def token(self):
        """The next token, which stays."""
        if self.at >= len(self.tokens):
            raise NoText(self.at)
        return self.tokens[self.at]

    def take(self, wanted):
        """Takes this very token."""
        if self.token() != wanted:
            raise NoText(self.at)
        self.at += 1

    def take_name(self):
        """Takes a name."""
        token = self.token()
        if not is_name(token):
            raise NoText(self.at)
        self.at += 1
        return token

    def take_names(self, most):
        """Takes at most so many names and the parentheses around them."""
        self.take("(")
        names = []
        while len(names) < most and self.token() != ")":
            names.append(self.take_name())
        self.take(")")
        return names

    def last_expression(self):
        """Takes an expression behind which nothing stands."""
        form = self.expression()
        if self.at < len(self.tokens):
            raise NoText(self.at)
        return form

    def expression(self):
        """Takes an expression."""
        if self.token() == "(" or (self.token() == STAR and self.stars):
            return self._parenthesized()
        return self._leaf()

    def _parenthesized(self):
        is_clear = self.token() == STAR
        if is_clear:
            self.at += 1
        at = self.at
        self.take("(")
        form = self._headed(at)
        form.is_clear = is_clear
        slots = SLOTS_OF_USE if form.head == "use" else SLOTS[form.head]
        for slot in slots:
            if slot == "tree":
                form.parts.append(self.expression())
            elif slot == "name":
                form.binders.append(self.take_name())
            elif slot == "names":
                form.binders.extend(self.take_names(MOST_PARAMETERS))
            else:
                while self.token() not in (")", self.rest_token):
                    form.parts.append(self.expression())
                form.parts.extend(self._rest())
        self.take(")")
        return form

    def _headed(self, at):
        """Takes a head, and begins the form that has it and began at this token."""
        head = self.token()
        if head not in SLOTS and not is_name(head):
            raise NoText(self.at)
        self.at += 1
        if head in SLOTS:
            return Form(head, None, at)
        return Form("use", head, at)

    def _rest(self):
        """Takes the rest if it stands there; a list of it or of nothing."""
        if self.token() != self.rest_token:
            return []
        self.at += 1
        return [Form(REST, self.rest_token, self.at - 1)]

    def _leaf(self):
        token = self.token()
        head = _leaf_head(token)
        if head is None:
            raise NoText(self.at)
        self.at += 1
        return Form(head, token, self.at - 1)


def _leaf_head(token):
    """The head of what is written as this one token, or None."""
    if token in ("true", "false"):
        return "flag"
    if token.startswith("'") and is_name(token[1:]):
        return "quote"
    if is_number(token):
        return "int"
    if is_name(token):
        return "name"
    return None
