"""Turning back: whether a node is what a template writes, and the use that it is then."""

from saidanew.binders import binders_over
from saidanew.templates import PLACE, template_of
from saidanew.trees import LITERALS, trees_of


class Turn:
    """A tree, the turns of its trees, and how far it reaches.

    The reach is how many of the binders around it the tree needs to be closed.
    """

    def __init__(self, tree, parts, reach):
        self.tree = tree
        self.parts = parts
        self.reach = reach


def turn_of(node, parts, lexicon):
    """The turn of a node, its trees replaced by those of these turns."""
    if not parts:
        return Turn(node, (), node[2][0] + 1 if node[0] == "name" else 0)
    head, ink, items = node
    plain = items[:len(items) - len(parts)]
    tree = (head, ink, plain + tuple([part.tree for part in parts]))
    reach = 0
    for part, many in zip(parts, binders_over(node, lexicon)):
        reach = max(reach, part.reach - many)
    return Turn(tree, parts, reach)


def turned_back(lexicon, tree):
    """The turn of a tree turned back."""
    done = []
    waiting = [(tree, False)]
    while waiting:
        node, is_open = waiting.pop()
        trees = trees_of(node)
        if trees and not is_open:
            waiting.append((node, True))
            waiting.extend([(inner, False) for inner in trees[::-1]])
        else:
            cut = len(done) - len(trees)
            turn = turn_of(node, done[cut:], lexicon)
            del done[cut:]
            done.append(use_instead(lexicon, turn))
    return done[0]


def use_instead(lexicon, turn):
    """The turn of the use that a node becomes, its trees turned back; the node's own where it fits none."""
    ink = turn.tree[1]
    if not ink or ink[-1][2] != ():
        return turn
    template = template_held(lexicon, turn.tree)
    if template is None or not is_taken(lexicon, template):
        return turn
    places = places_held(template, turn, ink[:-1])
    arguments = None if places is None else arguments_at(lexicon, template, places)
    if arguments is None:
        return turn
    plain = (template.row.title, template.size)
    return turn_of(("use", ink[:-1], plain + tuple([part.tree for part in arguments])), arguments, lexicon)


def template_held(lexicon, node):
    """The template against which a node is held by the last mark of its ink, or None if there is none.

    Its rest has the length that it has in the node, as far as one comes to it there.
    """
    word, place, _ = node[1][-1]
    row = lexicon.rule_at(word, place)
    if row is None:
        return None
    template = template_of(lexicon, row, 0)
    if row.rest is None:
        return template
    holder = tree_at(node, template.rest_path)
    without = tree_at(template.tree, template.rest_path)
    length = 0 if holder is None else len(holder[2]) - len(without[2])
    return template if length <= 0 else template_of(lexicon, row, length)


def tree_at(tree, path):
    """The tree to which one comes by a path, or None if one comes to no tree."""
    for at in path:
        if at >= len(tree[2]) or not isinstance(tree[2][at], tuple):
            return None
        tree = tree[2][at]
    return tree


def is_taken(lexicon, template):
    """Whether a use of the word with so many arguments takes the rule of the template."""
    taker = lexicon.rule_for(template.row.title, template.size)
    return taker is not None and taker.place == template.row.place


def places_held(template, turn, ink):
    """The pairs of a place of the template and the turn that stands there, or None if a node differs."""
    places = []
    waiting = [(template.tree, turn)]
    while waiting:
        wanted, held = waiting.pop()
        if wanted[0] == PLACE:
            places.append((wanted[2], held))
        elif differs(wanted, held.tree, ink):
            return None
        else:
            waiting.extend(list(zip(trees_of(wanted), held.parts)))
    return places


def differs(wanted, node, ink):
    """Whether a node is not what a node of a template is in the reading of a use with this ink."""
    head, mark, items = wanted
    if node[0] != head or len(node[2]) != len(items):
        return True
    if node[1] != (() if head in LITERALS else ink + mark):
        return True
    plain = len(items) - len(trees_of(wanted))
    return node[2][:plain] != items[:plain]


def arguments_at(lexicon, template, places):
    """The turns of the arguments that stand at these places, or None if they are none."""
    found = {}
    for (number, table, _), held in places:
        argument = moved_out(lexicon, held, table, template.under[number])
        if argument is None:
            return None
        if number in found and found[number].tree != argument.tree:
            return None
        found[number] = argument
    return [found[number] for number in range(len(template.under))]


def moved_out(lexicon, turn, table, many):
    """What stands at a place as it stands in the use, under so many binders; None if it needs an own binder."""
    if table == tuple(range(many)):
        return turn
    done = []
    waiting = [(turn, 0)]
    while waiting:
        held, depth = waiting.pop()
        node = held.tree
        if depth is None:
            cut = len(done) - len(held.parts)
            held = turn_of(node, done[cut:], lexicon)
            del done[cut:]
            done.append(held)
        elif held.reach <= depth:
            done.append(held)
        elif node[0] == "name":
            number = number_outside(node[2][0] - depth, table, many)
            if number is None:
                return None
            done.append(turn_of(("name", node[1], (number + depth,)), (), lexicon))
        else:
            waiting.append((held, None))
            for part, over in list(zip(held.parts, binders_over(node, lexicon)))[::-1]:
                waiting.append((part, depth + over))
    return done[0]


def number_outside(number, table, many):
    """By which number a name in an argument refers to its binder, if it does so by this one at a place."""
    if number < len(table):
        return table[number]
    return number - len(table) + many
