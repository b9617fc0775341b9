"""Papers: why no text reads as a tree."""

from saidanew.templates import PLACE
from saidanew.trees import FIRST_TREE, inked, is_index, is_path, trees_of
from saidanew.turning import (
    differs, is_taken, moved_out, places_held, template_held, tree_at, turned_back,
)

# The kinds of papers, with how many things each one has.
LENGTHS = {"lost": 2, "part": 3, "unlike": 3, "own": 3, "count": 2}


class Held:
    """A node of a tree turned back whose ink ends at the root of a template, held against this template.

    The template is None if the book has no such rule.
    """

    def __init__(self, lexicon, turn):
        self.lexicon = lexicon
        self.node = turn.tree
        self.ink = turn.tree[1][:-1]
        self.template = template_held(lexicon, turn.tree)
        self.turn = turn

    def wanted(self):
        """The nodes of the template that are no arguments, in preorder, each with its path."""
        found = []
        waiting = [((), self.template.tree)]
        while waiting:
            path, node = waiting.pop()
            if node[0] != PLACE:
                found.append((path, node))
                first = FIRST_TREE.get(node[0], 0)
                inner = [(path + (first + at,), tree) for at, tree in enumerate(trees_of(node))]
                waiting.extend(inner[::-1])
        return found

    def is_part(self, path, node):
        """Whether the tree at a path differs from the node of the template there."""
        held = tree_at(self.node, path)
        return held is None or differs(node, held, self.ink)

    def missing(self):
        """The paths at which a node of the template is not found."""
        return [path for path, node in self.wanted() if self.is_part(path, node)]

    def trees_at_places(self):
        """For each expression argument the trees at its places, None for one that needs an own binder.

        Only if all parts are there.
        """
        found = [[] for _ in self.template.under]
        for (number, table, _), turn in places_held(self.template, self.turn, self.ink):
            moved = moved_out(self.lexicon, turn, table, self.template.under[number])
            found[number].append(None if moved is None else moved.tree)
        return found


def why_hidden(book, tree):
    """Some paper of a closed core tree, or None if a text reads as it."""
    turn = turned_back(book.lexicon, tree)
    for path, ink in inked(turn.tree):
        if ink[-1][2] != ():
            return ("lost", path)
        return paper_of(Held(book.lexicon, turn_at(turn, path)), path)
    return None


def paper_of(held, path):
    """Some paper that names the node at this path, which does not fit."""
    if held.template is None:
        return ("count", path)
    missing = held.missing()
    if missing:
        return ("part", path, missing[0])
    for number, trees in enumerate(held.trees_at_places()):
        if None in trees:
            return ("own", path, number)
        if are_unlike(trees):
            return ("unlike", path, number)
    return ("count", path)


def paper_holds(book, tree, value):
    """Whether any value is a paper of a closed core tree."""
    if not is_paper(value):
        return False
    turn = turn_at(turned_back(book.lexicon, tree), value[1])
    if turn is None or not turn.tree[1]:
        return False
    if value[0] == "lost" or turn.tree[1][-1][2] != ():
        return value[0] == "lost" and turn.tree[1][-1][2] != ()
    held = Held(book.lexicon, turn)
    if held.template is None:
        return value[0] == "count"
    if value[0] == "part":
        return any([path == value[2] and held.is_part(path, node) for path, node in held.wanted()])
    if held.missing():
        return False
    if value[0] == "count":
        return not is_taken(book.lexicon, held.template)
    return argument_is_wrong(held, value[0], value[2])


def argument_is_wrong(held, kind, number):
    """Whether an argument with this number is `unlike` or `own` at the places of a node."""
    if number >= len(held.template.under):
        return False
    trees = held.trees_at_places()[number]
    return None in trees if kind == "own" else are_unlike([tree for tree in trees if tree is not None])


def are_unlike(trees):
    """Whether two of these trees differ."""
    return any([tree != trees[0] for tree in trees])


def is_paper(value):
    """Whether any value has the form of a paper."""
    if not isinstance(value, tuple) or len(value) < 2 or not isinstance(value[0], str):
        return False
    if LENGTHS.get(value[0]) != len(value) or not is_path(value[1]):
        return False
    if value[0] == "part":
        return is_path(value[2])
    return len(value) == 2 or is_index(value[2])


def turn_at(turn, path):
    """The turn to which one comes by a path, or None if one comes to no tree."""
    for at in path:
        place = at - len(turn.tree[2]) + len(turn.parts)
        if not 0 <= place < len(turn.parts):
            return None
        turn = turn.parts[place]
    return turn
