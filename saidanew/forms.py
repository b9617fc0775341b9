"""Forms: expressions as they are written, and the parser that finds them among tokens."""

from saidanew.errors import NoText
from saidanew.names import is_name
from saidanew.tokens import is_cell, is_number, is_quote
from saidanew.trees import MOST_PARAMETERS

# How many trees may stand behind a head: at least, and at most (None is any number).
SIZES = {
    "fun": (1, 1), "call": (1, None), "let": (2, 2), "if": (3, 3), "list": (0, None), "try": (2, 2),
    "do": (1, 1), "not": (1, 1), "first": (1, 1), "rest": (1, 1), "none": (1, 1),
    "cell": (1, 1), "get": (1, 1), "raise": (1, 1), "say": (1, 1),
    "seq": (2, 2), "plus": (2, 2), "minus": (2, 2), "times": (2, 2), "less": (2, 2), "same": (2, 2),
    "put": (2, 2), "set": (2, 2),
}
# How many parts stand ahead of a rest, at least.
AHEAD_OF_REST = {"use": 0, "list": 0, "call": 1}
# What a rest begins with, where it is an argument and where it stands.
REST = ".."
FLAGS = ("true", "false")
# The outermost form, which is not written, has what is written as its only part.
TOP = "top"


class Form:
    """What is written in brackets; what is written without them is its token alone.

    The head is that of the tree. The word is that of a use, else None. `at` is
    the token of the opening bracket. `most` is how many parts may stand here.
    """

    def __init__(self, head, word, at, least, most):
        self.head = head
        self.word = word
        self.at = at
        self.least = least
        self.most = most
        self.binders = ()
        self.parts = []
        self.ends_in_rest = False


def forms_in(part):
    """All forms of what is written, itself and inside of it, in no special order."""
    found = []
    waiting = [part]
    while waiting:
        form = waiting.pop()
        if not isinstance(form, str):
            found.append(form)
            waiting.extend(form.parts)
    return found


class Parser:
    """Takes what is expected off a list of tokens, or raises NoText where it does not follow.

    The rest is the token that may stand for one, or None. All forms are kept
    that are uses, all names of binders that are no arguments, and how many
    rests there were. `leaves` holds tokens that are known as expressions.
    """

    def __init__(self, tokens, at, leaves, rest=None, has_cells=False):
        # The empty token can follow nowhere: so the end is no special case.
        self.tokens = tokens + [""]
        self.at = at
        self.leaves = leaves
        self.rest_token = rest
        self.has_cells = has_cells
        self.uses = []
        self.binders = []
        self.rests = 0

    def take(self, wanted):
        """Takes this very token."""
        if self.tokens[self.at] != wanted:
            raise NoText(self.at)
        self.at += 1

    def take_name(self):
        """Takes a name."""
        token = self.tokens[self.at]
        if not is_name(token):
            raise NoText(self.at)
        self.at += 1
        return token

    def take_names(self, most):
        """Takes at most so many names and the parentheses around them."""
        self.take("(")
        names = []
        while len(names) < most and self.tokens[self.at] != ")":
            names.append(self.take_name())
        self.take(")")
        return tuple(names)

    def last_expression(self):
        """Takes an expression behind which nothing stands."""
        form = self.expression()
        if self.at < len(self.tokens) - 1:
            raise NoText(self.at)
        return form

    def expression(self):
        """Takes an expression: a form, or a token."""
        tokens = self.tokens
        leaves = self.leaves
        around = []
        form = Form(TOP, None, self.at, 1, 1)
        while around or not form.parts:
            token = tokens[self.at]
            if token == ")" or token == "]":
                self._close(form, token)
                form = around.pop()
            elif len(form.parts) == form.most:
                self._take_name_between(form)
            elif token in leaves or self._is_leaf(token):
                form.parts.append(token)
                self.at += 1
            elif token == "(" or token == "[":
                around.append(form)
                form = self._opened(token)
                around[-1].parts.append(form)
            else:
                self._take_rest(form)
        return form.parts[0]

    def _opened(self, bracket):
        """Takes what stands ahead of the first tree of a form, and begins this form."""
        at = self.at
        self.at += 1
        if bracket == "[":
            if not self.has_cells:
                raise NoText(at)
            return Form("made", None, at, 0, None)
        head = self.tokens[self.at]
        if head in SIZES:
            self.at += 1
            least, most = SIZES[head]
            form = Form(head, None, at, least, most)
            if head in ("fun", "let", "try"):
                self._take_binders(form)
        else:
            form = Form("use", self.take_name(), at, 0, None)
            self.uses.append(form)
        return form

    def _take_binders(self, form):
        """Takes the names that stand straight behind a head."""
        if form.head == "fun":
            form.binders = self.take_names(MOST_PARAMETERS)
        elif form.head == "let":
            form.binders = (self.take_name(),)
        else:
            # Behind its first tree a `try` goes on with a name.
            form.most = 1
        self.binders.extend(form.binders)

    def _take_name_between(self, form):
        """Takes the name behind the first tree of a `try`; behind all else nothing may follow."""
        if form.head != "try" or form.binders:
            raise NoText(self.at)
        form.binders = (self.take_name(),)
        form.most = 2
        self.binders.extend(form.binders)

    def _take_rest(self, form):
        """Takes the rest, behind which nothing may follow."""
        token = self.tokens[self.at]
        ahead = AHEAD_OF_REST.get(form.head)
        if token != self.rest_token or ahead is None or len(form.parts) < ahead:
            raise NoText(self.at)
        form.parts.append(token)
        form.ends_in_rest = True
        form.most = len(form.parts)
        self.at += 1
        self.rests += 1

    def _close(self, form, bracket):
        """Takes the closing bracket of a form."""
        wanted = "]" if form.head == "made" else ")"
        if bracket != wanted or len(form.parts) < form.least:
            raise NoText(self.at)
        self.at += 1

    def _is_leaf(self, token):
        """Whether a token is an expression by itself; such tokens are kept."""
        if is_name(token) or token in FLAGS or is_number(token) or is_quote(token):
            self.leaves[token] = True
            return True
        return self.has_cells and is_cell(token)
