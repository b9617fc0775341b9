"""Folding: from core trees to uses that read as them, inks aside."""

from saidanew.expansions import ARGUMENT, argument_names, argument_number, expansion_of
from saidanew.lexicon import LONGEST_REST
from saidanew.shapes import Shapes
from saidanew.trees import trees_of


def folded(book, tree):
    """A bare tree with as few nodes as possible that reads as a tree, inks aside."""
    shapes = Shapes()
    number, references = shapes.shape_of(tree)
    candidates = candidates_by_head(book.lexicon)
    sizes = []
    uses = {}
    for at, shape in enumerate(shapes.rows):
        least = 1 + sum([sizes[part[0]] for part in shape.parts])
        for word, n in candidates.get(shape.node[0], ()):
            use = use_held(book.lexicon, shapes, at, word, n)
            # What stands at the places of arguments is inside of the tree, so that its size is known.
            size = least if use is None else 1 + sum([sizes[part[0]] for part in trees_of(use)])
            if size < least:
                least = size
                uses[at] = use
        sizes.append(least)
    return shapes.tree_of(number, references, uses)


def folds(book, tree):
    """The pairs of a word and a number of arguments for which a use reads as the tree itself, inks aside."""
    shapes = Shapes()
    number, _ = shapes.shape_of(tree)
    found = []
    for word, n in candidates_by_head(book.lexicon).get(tree[0], ()):
        if use_held(book.lexicon, shapes, number, word, n) is not None:
            found.append((word, n))
    return tuple(found)


def fold(book, tree, word, n):
    """The use of a word with n arguments, these core and bare, that reads as the tree; None if there is none."""
    if book.rule(word, n) is None:
        return None
    shapes = Shapes()
    number, references = shapes.shape_of(tree)
    use = use_held(book.lexicon, shapes, number, word, n)
    if use is None:
        return None
    # The use stands for the tree itself alone, not for trees of the same shape in it; there are none.
    return shapes.tree_of(number, references, {number: use})


def candidates_by_head(lexicon):
    """For each head the pairs of a word and a number of arguments whose readings have it at their root, in order."""
    if lexicon.candidates is None:
        found = {}
        for word in lexicon.all_words:
            most = max([len(rule.arguments) for rule in lexicon.rules[word]]) + LONGEST_REST
            for n in range(most + 1):
                rule = lexicon.rule_for(word, n)
                if rule is not None:
                    # The root of a template is no use, so that it is the root of the reading.
                    found.setdefault(rule.root.head, []).append((word, n))
        lexicon.candidates = found
    return lexicon.candidates


def use_held(lexicon, shapes, number, word, n):
    """The use, as a node of shapes, that reads as a shape; None if there is none."""
    found = {}
    many = shapes.rows[number].many
    waiting = [(expansion_of(lexicon, word, n).tree, number, tuple(range(many)), 0)]
    while waiting:
        wanted, number, references, depth = waiting.pop()
        if wanted[0] == ARGUMENT:
            argument = argument_held(wanted, number, references, depth)
            if argument is None or found.setdefault(argument_number(wanted), argument) != argument:
                return None
            continue
        shape = shapes.rows[number]
        if wanted[0] != shape.node[0]:
            return None
        if wanted[0] == "name":
            # In a template names refer to its binders alone; these are told by -1 - their level.
            if references[0] != wanted[2][0] - depth:
                return None
            continue
        trees = trees_of(wanted)
        if len(trees) != len(shape.parts) or not has_plain_items(wanted, shape.node, len(trees)):
            return None
        for tree, (inner, links, over) in zip(trees, shape.parts):
            below = depth + over
            outer = tuple([references[link] if link >= 0 else -1 - link - below for link in links])
            waiting.append((tree, inner, outer, below))
    return ("use", (), (word, n, *[found[at] for at in range(len(found))]))


def has_plain_items(wanted, node, many):
    """Whether a node of shapes with so many parts has the items of another node that are no trees."""
    first = len(wanted[2]) - many
    return node[2][:first] == wanted[2][:first]


def argument_held(place, number, references, depth):
    """What stands at the place of an argument, as a part of the use; None if it needs an own binder."""
    names = argument_names(place)
    links = []
    for at in references:
        if at >= 0:
            links.append(at)
        elif depth + at in names:
            # The first name argument is the outermost binder.
            links.append(names.index(depth + at) - len(names))
        else:
            return None
    return (number, tuple(links), len(names))
