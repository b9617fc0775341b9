"""Reading: uses are replaced by their templates; and turning back, the other way."""

from saidanew.binders import binders_over
from saidanew.templates import PLACE, template_for
from saidanew.trees import LITERALS, SINGLE, gathered, trees_of
from saidanew.turning import turned_back


class Scene:
    """What a node stands in while it is read.

    The ink goes ahead of that of each node. The levels are those of the binders
    to which names can refer, from the outermost on; a binder's level is how many
    binders are around it in the reading. The arguments are pairs of a tree and
    its scene.
    """

    def __init__(self, ink, levels, arguments):
        self.ink = ink
        self.levels = levels
        self.arguments = arguments

    def below(self, levels):
        """The scene with more binders inside of the others."""
        return Scene(self.ink, self.levels + levels, self.arguments)

    def number_at(self, index, depth):
        """By which number a name refers to its binder, with so many binders around in the reading."""
        if index < len(self.levels):
            return depth - 1 - self.levels[-1 - index]
        # The binder is around the whole tree, farther out than all levels.
        return depth + index - len(self.levels)

    def argument(self, place):
        """The tree that stands at a place, and its scene."""
        number, _, scope = place
        tree, scene = self.arguments[number]
        if scope:
            scene = scene.below(tuple([self.levels[-1 - index] for index in scope]))
        return tree, scene


def reading(book, tree):
    """The core tree that a tree reads as."""
    return read_by(book.lexicon, tree)


def read_by(lexicon, tree):
    """The core tree that a tree reads as by the rules of a lexicon."""
    done = []
    waiting = [(tree, Scene((), (), ()), 0)]
    while waiting:
        node, scene, depth = waiting.pop()
        head, ink, items = node
        if scene is None:
            done.append(gathered(node, done))
        elif head == PLACE:
            inner, around = scene.argument(items)
            waiting.append((inner, around, depth))
        elif head == "use":
            template = template_for(lexicon, items[0], items[1])
            arguments = [(item, scene) for item in items[2:]]
            waiting.append((template.tree, Scene(scene.ink + ink, (), arguments), depth))
        elif head == "name":
            done.append((head, scene.ink + ink, (scene.number_at(items[0], depth),)))
        elif head in SINGLE:
            done.append(node)
        else:
            # A literal has no ink, also where the nodes around it are given some.
            waiting.append(((head, () if head in LITERALS else scene.ink + ink, items), None, 0))
            for inner, many in list(zip(trees_of(node), binders_over(node, lexicon)))[::-1]:
                levels = tuple(range(depth, depth + many))
                waiting.append((inner, scene.below(levels) if many else scene, depth + many))
    return done[0]


def turned(book, tree):
    """The tree turned back: with a use for each node that a template wrote and that fits it."""
    return turned_back(book.lexicon, tree).tree


def is_turned(tree):
    """Whether no ink is left in a tree."""
    waiting = [tree]
    while waiting:
        node = waiting.pop()
        if node[1]:
            return False
        waiting.extend(trees_of(node))
    return True
