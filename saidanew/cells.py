"""Cells: which ones a tree leads to, and how they are numbered."""

from saidanew.trees import trees_of, with_trees


def cells_in(tree):
    """The numbers of the cells in a tree, in preorder, each one once."""
    found = {}
    waiting = [tree]
    while waiting:
        node = waiting.pop()
        if node[0] == "ref":
            found[node[2][0]] = True
        waiting.extend(trees_of(node)[::-1])
    return list(found)


def led_to(term, values):
    """The numbers of the cells to which a term leads, in the order of their first coming.

    The values are a dict from the numbers of the cells.
    """
    known = {}
    # What comes is put behind what is there, so that the cells' values come in their order.
    row = list(cells_in(term))
    at = 0
    while at < len(row):
        if row[at] not in known:
            known[row[at]] = True
            row.extend(cells_in(values[row[at]]))
        at += 1
    return list(known)


def numbered(term, values):
    """The term and the tuple of the cells' values, with cells renumbered by first coming and others left out."""
    row = led_to(term, values)
    numbers = {number: at + 1 for at, number in enumerate(row)}
    if all([numbers[number] == number for number in row]):
        return term, tuple([values[number] for number in row])
    return renumbered(term, numbers), tuple([renumbered(values[number], numbers) for number in row])


def renumbered(tree, numbers):
    """The tree with its cells numbered anew by a dict."""
    # Properties are told by this, so that it may change no list but its own ones.
    done = []
    waiting = [(tree, False)]
    while waiting:
        node, is_open = waiting.pop()
        trees = trees_of(node)
        if is_open:
            anew = []
            while len(anew) < len(trees):
                anew.append(done.pop())
            done.append(with_trees(node, anew[::-1]))
        elif node[0] == "ref":
            done.append(("ref", (), (numbers[node[2][0]],)))
        elif not trees:
            done.append(node)
        else:
            waiting.append((node, True))
            waiting.extend([(inner, False) for inner in trees[::-1]])
    return done[0]
