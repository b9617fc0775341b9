"""From what is written to trees."""

from saidanew.errors import NoTree
from saidanew.forms import FLAGS, Form, Parser
from saidanew.names import is_name
from saidanew.tokens import number_of
from saidanew.trees import FIRST_TREE, gathered


class Builder:
    """Makes the trees of forms and tokens; raises NoTree for the first node, in preorder, that is wrong.

    `known` holds the names of the functions. Names of binders around something
    are told from the innermost one on, so that a name's index is its number.
    """

    def __init__(self, lexicon, known):
        self.lexicon = lexicon
        self.known = known

    def built(self, part, around):
        """The tree of a form or token with these names of binders around it."""
        done = []
        waiting = [(part, around, (), False)]
        while waiting:
            part, around, path, is_item = waiting.pop()
            if path is None:
                done.append(gathered(part, done))
            elif isinstance(part, Form):
                if is_item and not self._reads_as_value(part):
                    raise NoTree(path)
                plain, parts = self._opened(part, around, path)
                node = (part.head, self.ink_of(part, path), plain + tuple(parts))
                waiting.append((node, None, None, False))
                first = FIRST_TREE.get(part.head, 0)
                for at in reversed(range(len(parts))):
                    inner, names = parts[at]
                    waiting.append((inner, names, path + (first + at,), part.head == "made"))
            else:
                done.append(self.leaf(part, around, path))
        return done[0]

    def ink_of(self, form, path):
        """The ink of the node of a form; that of a name, if the form is None."""
        return ()

    def leaf(self, token, around, path):
        """The tree of a token."""
        if token in FLAGS:
            return ("flag", (), (token == "true",))
        if token in around:
            return ("name", self.ink_of(None, path), (around.index(token),))
        if token.startswith("'"):
            return ("quote", (), (token[1:],))
        if token.startswith("#"):
            return ("ref", (), (number_of(token[1:]),))
        if not is_name(token):
            return ("int", (), (number_of(token),))
        if token not in self.known:
            raise NoTree(path)
        return ("global", (), (token,))

    def parts_of(self, form, path):
        """The parts of a form."""
        return form.parts

    def _opened(self, form, around, path):
        """The items of a form that are no trees, and its trees with the names around each of them."""
        parts = self.parts_of(form, path)
        if form.head == "use":
            return (form.word, len(parts)), self._in_use(form, parts, around, path)
        if form.head == "made":
            # Names that are bound outside of the brackets are not visible in them.
            return (), [(part, ()) for part in parts]
        if not form.binders:
            plain = (0,) if form.head == "fun" else ()
            return plain, [(part, around) for part in parts]
        inner = form.binders[::-1] + around
        if form.head == "fun":
            return (len(form.binders),), [(parts[0], inner)]
        return (), [(parts[0], around), (parts[1], inner)]

    def _in_use(self, use, parts, around, path):
        """The expression arguments of a use with the names around each of them."""
        if use.ends_in_rest:
            return [(part, around) for part in parts]
        rule = self.lexicon.rule_for(use.word, len(parts))
        if rule is None:
            raise NoTree(path)
        if not rule.binds:
            return [(part, around) for part in parts]
        names = self.lexicon.name_parts(use)
        if not all([is_name(name) for name in names]) or len(set(names)) < len(names):
            raise NoTree(path)
        return [(part, binders[::-1] + around) for part, binders in self.lexicon.trees_in(use)]

    def _reads_as_value(self, form):
        """Whether a form in the brackets of `made` has a value as its reading."""
        if form.head != "use":
            return form.head in ("fun", "made")
        rule = self.lexicon.rule_for(form.word, len(form.parts))
        # The root of a template is the root of the reading, for it is no use and no argument.
        return rule is not None and rule.root.head == "fun"


def tree_of_tokens(tokens, lexicon, functions, parameters=()):
    """The tree that these tokens are, with these parameters around it and these functions besides the book's."""
    form = Parser(tokens, 0, {}, has_cells=True).last_expression()
    known = {name: True for name in lexicon.all_functions + tuple(functions)}
    return Builder(lexicon, known).built(form, tuple(parameters[::-1]))


def body_of_function(lexicon, name):
    """The tree, under its parameters, that is the body of a function of the book."""
    row = lexicon.function_rows[name]
    return Builder(lexicon, lexicon.function_rows).built(row.root, row.parameters[::-1])
