"""Filling: closed values come in the place of names."""

from saidanew.binders import binders_over_core
from saidanew.trees import LITERALS, gathered, trees_of


def filled(tree, values):
    """A core tree with values in the place of the names around it, the last one for the innermost name."""
    done = []
    waiting = [(tree, 0)]
    while waiting:
        node, depth = waiting.pop()
        if depth is None:
            done.append(gathered(node, done))
        elif node[0] == "name":
            index = node[2][0] - depth
            done.append(node if index < 0 else values[-1 - index])
        elif node[0] in LITERALS:
            # Also the items of a `made` are closed, so that no name in them is meant.
            done.append(node)
        else:
            waiting.append((node, None))
            for inner, many in list(zip(trees_of(node), binders_over_core(node)))[::-1]:
                waiting.append((inner, depth + many))
    return done[0]
