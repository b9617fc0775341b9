"""Demands: what the nodes of a tree demand of kinds."""

from saidanew.expansions import ARGUMENT, argument_names, argument_number
from saidanew.solving import WORD, Solver, shifted
from saidanew.templates import PLACE
from saidanew.trees import FIRST_TREE, trees_of

# For heads the kind of the node, or None if it may be any, and those of its items. There 0 is the node's own kind,
# and 1 is a kind that may be any.
SHAPES = {
    "do": (None, (0,)), "say": (None, (0,)), "seq": (None, (1, 0)), "if": (None, (("flag",), 0, 0)),
    "raise": (None, (("word",),)), "get": (None, (("cell", 0),)), "set": (None, (("cell", 0), 0)),
    "cell": (("cell", 1), (1,)), "first": (None, (("list", 0),)), "rest": (("list", 1), (("list", 1),)),
    "put": (("list", 1), (1, ("list", 1))), "none": (("flag",), (("list", 1),)),
    "plus": (("num",), (("num",), ("num",))), "minus": (("num",), (("num",), ("num",))),
    "times": (("num",), (("num",), ("num",))), "less": (("flag",), (("num",), ("num",))),
    "same": (("flag",), (1, 1)), "not": (("flag",), (("flag",),)),
}
LITERAL_KINDS = {"int": ("num",), "quote": ("word",), "flag": ("flag",)}


class Demands:
    """Goes through trees, and finds whether all that their nodes demand can be met together.

    A node makes its demands in instances, one for each of its copies: pairs of
    its kind there, and of the kinds of the binders around it, the innermost one
    first. `schemes` tells the derived kinds of uses. Functions in the group have
    one kind each; the others have schemes, or None if they do not fit. What the
    places of arguments are, in a template, is noted in `places`.
    """

    def __init__(self, schemes, functions):
        self.solver = Solver()
        self.schemes = schemes
        self.function_schemes = functions
        self.group = {}
        self.cells = {}
        self.places = []

    def first_unmet(self, tree, kind, around):
        """The path of the first node in preorder whose demands cannot be met with those ahead of it, or None."""
        waiting = [(tree, (), [(kind, around)])]
        while waiting:
            node, path, instances = waiting.pop()
            head = node[0]
            trees = () if head in (PLACE, ARGUMENT) else trees_of(node)
            inner = [[] for _ in trees]
            if head in SHAPES:
                whole, parts = SHAPES[head]
                is_met = self._shape_is_met(whole, parts, instances, inner)
            else:
                demand = OTHERS[head]
                is_met = all([demand(self, node, wanted, names, inner) for wanted, names in instances])
            if not is_met:
                return path
            first = FIRST_TREE.get(head, 0)
            for at in reversed(range(len(trees))):
                waiting.append((trees[at], path + (first + at,), inner[at]))
        return None

    def _shape_is_met(self, whole, parts, instances, inner):
        """Whether what a head of the table demands can be met."""
        solver = self.solver
        for kind, around in instances:
            both = (kind, solver.unknown() if whole is not None or 1 in parts else kind)
            if whole is not None and not solver.are_one(kind, in_shape(whole, both)):
                return False
            for at, part in enumerate(parts):
                inner[at].append((in_shape(part, both), around))
        return True

    def function_is(self, name, kind):
        """Whether a function can have this kind; from now on it has it here."""
        if name in self.group:
            return self.solver.are_one(kind, self.group[name])
        scheme = self.function_schemes[name]
        if scheme is None:
            return False
        return self.solver.are_one(kind, shifted(scheme.whole, self.solver.unknowns(scheme.many)))


def in_shape(part, both):
    """A kind of the table, for a node's own kind and another one."""
    if isinstance(part, int):
        return both[part]
    return part if len(part) == 1 else (part[0], both[part[1]])


def literal(demands, node, kind, around, inner):
    """An integer, a quoted word or a flag."""
    return demands.solver.are_one(kind, LITERAL_KINDS[node[0]])


def function_name(demands, node, kind, around, inner):
    """The name of a function."""
    return demands.function_is(node[2][0], kind)


def cell_number(demands, node, kind, around, inner):
    """A cell."""
    return demands.solver.are_one(kind, ("cell", demands.cells[node[2][0]]))


def bound_name(demands, node, kind, around, inner):
    """A name that is bound."""
    return demands.solver.are_one(kind, around[node[2][0]])


def listed(demands, node, kind, around, inner):
    """A `list` or a `made`, whose items have one kind."""
    item = demands.solver.unknown()
    many = len(inner)
    for at in range(many):
        inner[at].append((item, () if node[0] == "made" else around))
    return demands.solver.are_one(kind, ("list", item))


def passed_on(demands, node, kind, around, inner):
    """A `fun`, with a kind for each parameter."""
    many = node[2][0]
    first = demands.solver.unknowns(many + 1)
    parameters = list(range(first, first + many))
    inner[0].append((first + many, (*parameters[::-1], *around)))
    return demands.solver.are_one(kind, ("fun", *parameters, first + many))


def called(demands, node, kind, around, inner):
    """A `call`."""
    many = len(inner) - 1
    first = demands.solver.unknowns(many)
    inner[0].append((("fun", *list(range(first, first + many)), kind), around))
    for at in range(many):
        inner[at + 1].append((first + at, around))
    return True


def let_in(demands, node, kind, around, inner):
    """A `let`."""
    bound = demands.solver.unknown()
    inner[0].append((bound, around))
    inner[1].append((kind, (bound, *around)))
    return True


def tried(demands, node, kind, around, inner):
    """A `try`."""
    inner[0].append((kind, around))
    inner[1].append((kind, (WORD, *around)))
    return True


def used(demands, node, kind, around, inner):
    """A use, by the derived kind of its rule."""
    scheme = demands.schemes.scheme_for(node[2][0], node[2][1])
    if scheme is None:
        return False
    first = demands.solver.unknowns(scheme.many)
    if not demands.solver.are_one(kind, shifted(scheme.whole, first)):
        return False
    for number, wanted, binders in scheme.places:
        names = [shifted(binder, first) for binder in binders[::-1]]
        inner[number].append((shifted(wanted, first), (*names, *around)))
    return all([demands.function_is(name, shifted(wanted, first)) for name, wanted in scheme.calls])


def place(demands, node, kind, around, inner):
    """The place of an argument in a template."""
    number, _, scope = node[2]
    demands.places.append((number, kind, tuple([around[index] for index in scope])))
    return True


def argument(demands, node, kind, around, inner):
    """The place of an argument in what a use reads as."""
    binders = tuple([around[index] for index in argument_names(node)])
    demands.places.append((argument_number(node), kind, binders))
    return True


OTHERS = {
    "int": literal, "quote": literal, "flag": literal, "global": function_name, "ref": cell_number, "name": bound_name,
    "made": listed, "list": listed, "fun": passed_on, "call": called, "let": let_in, "try": tried, "use": used,
    "place": place, "argument": argument,
}
