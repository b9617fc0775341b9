"""The machine: runs with environments, in which names are looked up and never replaced.

A value is a tree; a `fun` that needs what is around it has, behind its items,
the values of the names around it, the innermost one last. Items of a `made` may
be such ones.
"""

from saidanew.binders import binders_over_core
from saidanew.cells import cells_in
from saidanew.errors import AtEnd
from saidanew.steps import line_of, outcome, state_with
from saidanew.trees import LITERALS, SINGLE, trees_of, with_trees
from saidanew.working import own_step, raise_of, wanted_values


class Machine:
    """Runs a program from its start, by the steps of the document.

    The frames are the nodes from the root to the one whose own step is next,
    each with the values of the names around it and those of its items that are
    known. Without frames the run has ended with the last value.
    """

    def __init__(self, program):
        self._program = program
        self._steps = 0
        self._cells = list(program.start.cells)
        self._frames = []
        self._last = None
        self._work_on(program.start.term, ())

    @property
    def number(self):
        """The number of the present state."""
        return self._steps

    @property
    def state(self):
        """The present state, as the stepper has it."""
        term = term_of_work(self._frames, self._last)
        values = {}
        waiting = list(cells_in(term))
        while waiting:
            number = waiting.pop()
            if number not in values:
                values[number] = read_back(self._cells[number - 1], (), 0)
                waiting.extend(cells_in(values[number]))
        return state_with(term, values)

    def line(self):
        """The line of the present state, or None."""
        return line_of(self._program, self.state)

    def step(self):
        """Goes on by one step, and returns what was said, or None."""
        if self._is_over():
            raise AtEnd()
        node, around, values = self._frames.pop()
        self._steps += 1
        head, ink, items = node
        said = None
        if head == "let":
            self._work_on(items[1], around + values)
        elif head == "seq":
            self._work_on(items[1], around)
        elif head == "if":
            self._choose(items, values[0], around)
        elif head == "call":
            self._call(values)
        elif head == "raise":
            self._raise(node, values)
        elif head in ("cell", "get", "set"):
            self._work_on(self._cell_step(head, values), ())
        else:
            # What is left looks at values alone, and changes no cell.
            tree, _, said = own_step((head, ink, values), (), self._program)
            self._work_on(tree, ())
        return said

    def run(self, *, most=5000):
        """Goes to the end, at most so many steps, and returns the outcome, or None."""
        for _ in range(most):
            if self._is_over():
                break
            self.step()
        return outcome(self.state)

    def copied(self):
        """A machine that goes on from here by itself."""
        other = Machine(self._program)
        other._steps = self._steps
        other._cells = list(self._cells)
        other._frames = list(self._frames)
        other._last = self._last
        return other

    def _is_over(self):
        return not self._frames or len(self._frames) == 1 and self._frames[0][0][0] == "raise"

    def _work_on(self, tree, around):
        """Goes into a tree to the first node whose items are values as far as they must be; a value is handed on."""
        while True:
            value = value_of(tree, around)
            if value is None:
                frame = (tree, around, ())
            elif self._frames:
                node, around, values = self._frames.pop()
                frame = (node, around, values + (value,))
            else:
                self._last = value
                return
            self._frames.append(frame)
            node, around, values = frame
            wanted = wanted_values(node)
            if len(values) == len(wanted):
                return
            tree = wanted[len(values)]

    def _choose(self, items, flag, around):
        """The step of an `if` with these items."""
        if flag[0] == "flag":
            self._work_on(items[1] if flag[2][0] else items[2], around)
        else:
            self._work_on(raise_of("kind"), ())

    def _call(self, values):
        """The step of a `call` of these values."""
        what = values[0]
        if what[0] not in ("fun", "global"):
            self._work_on(raise_of("kind"), ())
            return
        many, body = what[2] if what[0] == "fun" else self._program.body(what[2][0])
        if many == len(values) - 1:
            self._work_on(body, values_around(what) + values[1:])
        else:
            self._work_on(raise_of("kind"), ())

    def _raise(self, node, values):
        """The step of a `raise` inside of something: the innermost `try` goes on, or the raise is all that is left."""
        while self._frames:
            outer, around, _ = self._frames.pop()
            if outer[0] == "try":
                self._work_on(outer[2][1], around + values)
                return
        self._frames.append((node, (), values))

    def _cell_step(self, head, values):
        """What a node becomes that makes, reads or changes a cell."""
        if head == "cell":
            self._cells.append(values[0])
            return ("ref", (), (len(self._cells),))
        if values[0][0] != "ref":
            return raise_of("kind")
        number = values[0][2][0]
        if head == "set":
            self._cells[number - 1] = values[1]
        return self._cells[number - 1]


def value_of(tree, around):
    """The value that a tree is by itself, or None."""
    head = tree[0]
    if head == "name":
        return around[-1 - tree[2][0]]
    if head == "fun":
        return tree + (around,) if around else tree
    return tree if head in LITERALS else None


def values_around(function):
    """The values of the names around a function."""
    return function[3] if len(function) > 3 else ()


def term_of_work(frames, last):
    """The term of a machine with these frames, or with this last value."""
    if not frames:
        return read_back(last, (), 0)
    term = None
    for node, around, values in frames[::-1]:
        trees = [read_back(value, (), 0) for value in values]
        if term is not None:
            trees.append(term)
        overs = binders_over_core(node)
        done = len(trees)
        rest = [read_back(node[2][at], around, overs[at]) for at in range(done, len(overs))]
        term = (node[0], node[1], tuple(trees + rest))
    return term


def read_back(tree, around, depth):
    """A tree with each name that stands for a value around it replaced; so many binders are between them."""
    # Properties are told by this, so that it may change no list but its own ones.
    done = []
    waiting = [(tree, around, depth)]
    while waiting:
        node, values, deep = waiting.pop()
        if len(node) > 3:
            node, values, deep = node[:3], node[3], 0
        head = node[0]
        if values is None:
            trees = []
            while len(trees) < len(trees_of(node)):
                trees.append(done.pop())
            done.append(with_trees(node, trees[::-1]))
        elif head == "name" and node[2][0] >= deep:
            waiting.append((values[deep - 1 - node[2][0]], (), 0))
        elif head in SINGLE or not values and head != "made":
            done.append(node)
        else:
            waiting.append((node, None, 0))
            # The items of a `made` are closed, so that no name in them is one of those around it.
            inside = () if head == "made" else values
            for inner, many in list(zip(trees_of(node), binders_over_core(node)))[::-1]:
                waiting.append((inner, inside, deep + many))
    return done[0]
