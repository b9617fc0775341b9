"""Tracks: the states of a run by their numbers, and how far one goes along them."""

from saidanew.errors import NoPlace, TooMany
from saidanew.expansions import expansion_of
from saidanew.steps import line_of, outcome, shown_trees, step
from saidanew.turning import tree_at
from saidanew.working import is_value, place_of_catcher, place_of_work


class Track:
    """The states of a run, as far as they have been asked for; behind the last one come its steps.

    `told` is what was said, in order, and `heard` has for each state how much of
    it was said on the way to it. The numbers of the states that are no steps,
    since a change put them there, are in `changed`.
    """

    def __init__(self, program, state):
        self.program = program
        self.states = [state]
        self.told = []
        self.heard = [0]
        self.changed = {}

    def reaches(self, number):
        """Whether there is a state with this number; if so, it is found."""
        while number >= len(self.states):
            last = self.states[-1]
            if outcome(last) is not None:
                return False
            following, said = step(self.program, last)
            self.states.append(following)
            if said is not None:
                self.told.append(said)
            self.heard.append(len(self.told))
        return True

    def farthest(self, number):
        """The greatest number of a state that is not above this one."""
        return number if self.reaches(number) else len(self.states) - 1

    def with_change(self, number, state):
        """The track that leads to the state with this number as this one does, and from there to another one."""
        other = Track(self.program, state)
        other.states = self.states[:number + 1] + [state]
        other.told = self.told[:self.heard[number]]
        other.heard = self.heard[:number + 1] + [self.heard[number]]
        other.changed = {at: True for at in self.changed if at <= number}
        other.changed[number + 1] = True
        return other

    def next_shown(self, number, most):
        """The number and the line of the next shown state behind this one within so many states, or None."""
        for at in range(number + 1, number + most + 1):
            if not self.reaches(at):
                return None
            line = line_of(self.program, self.states[at])
            if line is not None:
                return at, line
        return None

    def number_over(self, number, path, most):
        """The number of the state to which one comes over the use at a path of a state."""
        place = place_to_go_over(self.program, self.states[number], path)
        for at in range(number + 1, number + most + 1):
            if self.reaches(at) and self._is_over(at, place):
                return at
        raise TooMany(most)

    def _is_over(self, at, place):
        """Whether what was at work at a place is done with in the state with this number."""
        state = self.states[at]
        node = tree_at(state.term, place)
        if outcome(state) is not None or node is not None and is_value(node):
            return True
        return at not in self.changed and is_caught_around(self.states[at - 1].term, place)


def is_caught_around(term, place):
    """Whether the next step of a term is a raise that a `try` around this place catches."""
    node, above = place_of_work(term)
    if node[0] != "raise":
        return False
    at = place_of_catcher(above)
    return at is not None and at < len(place) and path_of_work(above)[:at] == place[:at]


def path_of_work(above):
    """The path of the node at which the next step is, by the nodes above it."""
    return tuple([at for _, at in above])


def place_to_go_over(program, state, path):
    """The place of the use at this path of a state that is turned back; raises NoPlace if it is not at work there."""
    trees = shown_trees(program.book, state)
    if trees is None or outcome(state) is not None:
        raise NoPlace(path)
    work = path_of_work(place_of_work(state.term)[1])
    place = place_on_the_way(program.book.lexicon, trees[0], path, work)
    if place is None:
        raise NoPlace(path)
    return place


def place_on_the_way(lexicon, tree, path, work):
    """The place, on the way to the work, at which the use stands that is at a path of a tree turned back, or None."""
    place = ()
    for at in path:
        inner = tree_at(tree, (at,))
        if inner is None:
            return None
        place = place_of_item(lexicon, tree, at, place, work)
        if place is None:
            return None
        tree = inner
    return place if tree[0] == "use" else None


def place_of_item(lexicon, node, at, place, work):
    """The place, on the way to the work, of an item of a node that stands at a place, or None."""
    ways = [(at,)]
    if node[0] == "use":
        ways = expansion_of(lexicon, node[2][0], node[2][1]).paths[at - 2]
    for way in ways:
        inner = place + way
        if work[:len(inner)] == inner:
            return inner
    return None
