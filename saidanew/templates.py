"""Templates of rules as trees."""

from saidanew.building import Builder
from saidanew.lexicon import LONGEST_REST

# The head of a node at which an argument stands; no head of a tree.
PLACE = "place"


class Template:
    """The template of a rule, with a rest of some length, as a tree.

    Its inks are what the template adds to the ink of a use. A place is a node
    (PLACE, (), (k, table, scope)): the expression argument k stands there. The
    table has, for each binder of the template around the place, from the
    innermost one on, the number by which a name in the argument refers to it,
    or None for an own binder of the template. The scope has the indexes in the
    table of the binders to which the argument refers, from the outermost on.

    `under` has, for each expression argument, under how many binders it is in a
    use; `size` is the number of all arguments. The path is that of the node at
    the end of which the rest stands, or None.
    """

    def __init__(self, row, tree, under, rest_path):
        self.row = row
        self.tree = tree
        self.under = under
        self.rest_path = rest_path
        self.size = len(row.name_arguments()) + len(under)


class TemplateBuilder(Builder):
    """Makes the tree of the template of a rule, with a rest of some length."""

    def __init__(self, lexicon, row, length):
        super().__init__(lexicon, lexicon.function_rows)
        self.row = row
        self.length = length
        self.rest_path = None
        self.expressions = row.expression_arguments()
        self.argument_scopes = lexicon.known_scopes[(row.title, row.place)] + ((),) * length

    def finished(self):
        """The template."""
        tree = self.built(self.row.root, ())
        return Template(self.row, tree, tuple([len(scope) for scope in self.argument_scopes]), self.rest_path)

    def ink_of(self, form, path):
        """The mark of a node, if it is not clear."""
        if form is not None and form.at in self.row.clear_ones:
            return ()
        return ((self.row.title, self.row.place, path),)

    def leaf(self, token, around, path):
        """The tree of a token, or the place of an argument, which may be told by its number."""
        if isinstance(token, int):
            return self._place(token, around)
        if token in self.expressions:
            return self._place(self.expressions.index(token), around)
        return super().leaf(token, around, path)

    def parts_of(self, form, path):
        """The parts of a form, those of the rest by the numbers of the arguments."""
        if not form.ends_in_rest:
            return form.parts
        self.rest_path = path
        first = len(self.expressions)
        return form.parts[:-1] + list(range(first, first + self.length))

    def _place(self, number, around):
        scope = self.argument_scopes[number]
        # The argument is under one binder for each name argument, the first one outermost.
        names = [self.row.arguments[at][0] for at in scope]
        numbers = {name: len(names) - 1 - at for at, name in enumerate(names)}
        table = tuple([numbers.get(name) for name in around])
        return (PLACE, (), (number, table, tuple([around.index(name) for name in names])))


def template_of(lexicon, row, length):
    """The template of a rule with a rest of this length; 0 for a rule without one."""
    key = (row.title, row.place, length)
    template = lexicon.templates.get(key)
    if template is None:
        template = TemplateBuilder(lexicon, row, length).finished()
        # A use with a longer rest is never right, so it is not worth being kept.
        if length <= LONGEST_REST:
            lexicon.templates[key] = template
    return template


def template_for(lexicon, word, n):
    """The template of the rule that a use with n arguments takes."""
    row = lexicon.rule_for(word, n)
    return template_of(lexicon, row, n - len(row.arguments))
