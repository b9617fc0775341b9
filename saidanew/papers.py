"""Papers: why no text reads as a tree."""

from saidanew.templates import PLACE
from saidanew.trees import FIRST_TREE, inked, is_index, is_path, trees_of
from saidanew.turning import (
    differs, is_taken, moved_out, places_held, template_held, tree_at, turned_back,
)

# The kinds of papers, with how many things each one has.
LENGTHS = {"lost": 2, "part": 3, "unlike": 3, "own": 3, "count": 2}
# So many trees are kept with what was found of them; their depth is limited because they are compared.
KEPT = 64
DEEPEST_KEPT = 150


class Sight:
    """A tree, and what has been found of it: the tree turned back, and those of its nodes that were looked at."""

    def __init__(self, lexicon, tree):
        self.lexicon = lexicon
        self.tree = tree
        self.turn = turned_back(lexicon, tree)
        self.nodes = {}

    def held_at(self, path):
        """The node of the tree turned back at this path, if it has ink left; else None."""
        held = self.nodes.get(path)
        if held is None:
            turn = turn_at(self.turn, path)
            if turn is None or not turn.tree[1]:
                return None
            held = self.nodes[path] = Held(self.lexicon, turn)
        return held

    def first_held(self):
        """The path of the first node that has ink left, and this node; None if there is none."""
        for path, _ in inked(self.turn.tree):
            return path, self.held_at(path)
        return None


def sight_of(lexicon, tree):
    """The sight of a tree; some are kept, for whoever asks about a tree asks often."""
    for sight in lexicon.sights:
        if sight.tree == tree:
            return sight
    sight = Sight(lexicon, tree)
    if is_shallow(tree):
        lexicon.sights = [sight] + lexicon.sights[:KEPT - 1]
    return sight


def is_shallow(tree):
    """Whether a tree is not so deep that Python could fail to compare it with another one."""
    level = [tree]
    for _ in range(DEEPEST_KEPT):
        level = [inner for node in level for inner in trees_of(node)]
        if not level:
            return True
    return False


class Held:
    """A node of a tree turned back that has ink left, held against the template whose root wrote it.

    It is lost if no root wrote it. The template is None if the book has no such
    rule. What does not fit is found when it is asked for.
    """

    def __init__(self, lexicon, turn):
        self.lexicon = lexicon
        self.turn = turn
        self.node = turn.tree
        self.ink = turn.tree[1][:-1]
        self.is_lost = turn.tree[1][-1][2] != ()
        self.template = None if self.is_lost else template_held(lexicon, turn.tree)
        self.missing_parts = None
        self.wrong_arguments = None

    def accepts(self, value):
        """Whether what has the form of a paper, and names this node, is one."""
        kind = value[0]
        if self.is_lost or kind == "lost":
            return self.is_lost and kind == "lost"
        if self.template is None:
            return kind == "count"
        missing = self.missing()
        if missing or kind == "part":
            return kind == "part" and value[2] in missing
        if kind == "count":
            return not is_taken(self.lexicon, self.template)
        return (kind, value[2]) in self.wrongs()

    def paper(self, path):
        """Some paper that names this node, which is at this path."""
        if self.is_lost:
            return ("lost", path)
        if self.template is None:
            return ("count", path)
        for part in self.missing():
            return ("part", path, part)
        for kind, number in self.wrongs():
            return (kind, path, number)
        return ("count", path)

    def missing(self):
        """The paths at which a node of the template is not found."""
        if self.missing_parts is None:
            self.missing_parts = [path for path, node in self._wanted() if self._is_part(path, node)]
        return self.missing_parts

    def wrongs(self):
        """The pairs of `own` or `unlike` and the number of an argument that is so; only if all parts are there."""
        if self.wrong_arguments is None:
            self.wrong_arguments = []
            for number, trees in enumerate(self._trees_at_places()):
                if None in trees:
                    self.wrong_arguments.append(("own", number))
                if are_unlike([tree for tree in trees if tree is not None]):
                    self.wrong_arguments.append(("unlike", number))
        return self.wrong_arguments

    def _wanted(self):
        """The nodes of the template that are no arguments, in preorder, each with its path."""
        found = []
        waiting = [((), self.template.tree)]
        while waiting:
            path, node = waiting.pop()
            if node[0] != PLACE:
                found.append((path, node))
                first = FIRST_TREE.get(node[0], 0)
                inner = [(path + (first + at,), tree) for at, tree in enumerate(trees_of(node))]
                waiting.extend(inner[::-1])
        return found

    def _is_part(self, path, node):
        """Whether the tree at a path differs from the node of the template there."""
        held = tree_at(self.node, path)
        return held is None or differs(node, held, self.ink)

    def _trees_at_places(self):
        """For each expression argument the trees at its places, None for one that needs an own binder."""
        found = [[] for _ in self.template.under]
        for (number, table, _), turn in places_held(self.template, self.turn, self.ink):
            moved = moved_out(self.lexicon, turn, table, self.template.under[number])
            found[number].append(None if moved is None else moved.tree)
        return found


def why_hidden(book, tree):
    """Some paper of a closed core tree, or None if a text reads as it."""
    first = sight_of(book.lexicon, tree).first_held()
    if first is None:
        return None
    path, held = first
    return held.paper(path)


def paper_holds(book, tree, value):
    """Whether any value is a paper of a closed core tree."""
    if not is_paper(value):
        return False
    held = sight_of(book.lexicon, tree).held_at(value[1])
    return held is not None and held.accepts(value)


def are_unlike(trees):
    """Whether two of these trees differ."""
    return any([tree != trees[0] for tree in trees])


def is_paper(value):
    """Whether any value has the form of a paper."""
    if not isinstance(value, tuple) or len(value) < 2 or not isinstance(value[0], str):
        return False
    if LENGTHS.get(value[0]) != len(value) or not is_path(value[1]):
        return False
    if value[0] == "part":
        return is_path(value[2])
    return len(value) == 2 or is_index(value[2])


def turn_at(turn, path):
    """The turn to which one comes by a path, or None if one comes to no tree."""
    for at in path:
        place = at - len(turn.tree[2]) + len(turn.parts)
        if not 0 <= place < len(turn.parts):
            return None
        turn = turn.parts[place]
    return turn
