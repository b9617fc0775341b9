"""What uses read as, with their arguments left open."""

from saidanew.reading import read_by
from saidanew.trees import FIRST_TREE, trees_of

# The head of a node at which an argument stands; no head of a tree.
ARGUMENT = "argument"


class Expansion:
    """The reading of a use in which arguments are left open.

    Where the expression argument k stands, there is a node (ARGUMENT, (), items):
    first comes an `int` with k, then a name for each name argument in whose
    scope it stands, in their order. The paths are, for each expression
    argument, those of its places, in preorder.
    """

    def __init__(self, tree, many):
        self.tree = tree
        self.paths = paths_of_arguments(tree, many)


def argument_number(node):
    """Which expression argument stands at a node."""
    return node[2][0][2][0]


def argument_names(node):
    """By which numbers one refers, at the place of an argument, to the name arguments in whose scope it stands."""
    return [name[2][0] for name in node[2][1:]]


def expansion_of(lexicon, word, n):
    """The expansion of a use with n arguments, which some rule takes."""
    key = (word, n)
    expansion = lexicon.expansions.get(key)
    if expansion is None:
        arguments = []
        for number, scope in enumerate(lexicon.scopes_for(word, n)):
            names = [("name", (), (index,)) for index in reversed(range(len(scope)))]
            arguments.append((ARGUMENT, (), (("int", (), (number,)), *names)))
        tree = read_by(lexicon, ("use", (), (word, n, *arguments)))
        expansion = lexicon.expansions[key] = Expansion(tree, len(arguments))
    return expansion


def paths_of_arguments(tree, many):
    """For each of so many arguments the paths of its places."""
    paths = [[] for _ in range(many)]
    waiting = [((), tree)]
    while waiting:
        path, node = waiting.pop()
        if node[0] == ARGUMENT:
            paths[argument_number(node)].append(path)
        else:
            first = FIRST_TREE.get(node[0], 0)
            inner = [(path + (first + at,), item) for at, item in enumerate(trees_of(node))]
            waiting.extend(inner[::-1])
    return paths
