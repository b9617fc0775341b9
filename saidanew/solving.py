"""Kinds, and the solver that finds which ones they are.

A kind is a tuple of its head and the kinds in it, as ("num",), ("list", K) or
("fun", K, .., L); or it is an unknown, which is a number.
"""

WORD = ("word",)


class Solver:
    """Knows what has been found of some unknowns."""

    def __init__(self):
        self.known = []

    def unknown(self):
        """A new unknown."""
        self.known.append(None)
        return len(self.known) - 1

    def unknowns(self, many):
        """The first one of so many new unknowns."""
        first = len(self.known)
        self.known.extend([None] * many)
        return first

    def found(self, kind):
        """The kind, which is an unknown only if nothing is known of it."""
        while isinstance(kind, int):
            other = self.known[kind]
            if other is None:
                return kind
            kind = other
        return kind

    def are_one(self, one, other):
        """Whether two kinds can be the same one; from now on they are."""
        pairs = [(one, other)]
        while pairs:
            one, other = pairs.pop()
            one = self.found(one)
            other = self.found(other)
            if one == other:
                continue
            if isinstance(one, int):
                if not self._is_told(one, other):
                    return False
            elif isinstance(other, int):
                if not self._is_told(other, one):
                    return False
            elif one[0] != other[0] or len(one) != len(other):
                return False
            else:
                pairs.extend(list(zip(one[1:], other[1:])))
        return True

    def _is_told(self, unknown, kind):
        """Whether an unknown of which nothing is known can be a kind; from now on it is."""
        seen = {}
        waiting = [kind]
        while waiting:
            here = waiting.pop()
            if not isinstance(here, int):
                waiting.extend(here[1:])
            elif here == unknown:
                # It would be inside of itself, and a kind is finite.
                return False
            elif here not in seen:
                seen[here] = True
                if self.known[here] is not None:
                    waiting.append(self.known[here])
        self.known[unknown] = kind
        return True

    def resolved(self, kind):
        """The kind with all that is known put into it."""
        kind = self.found(kind)
        if isinstance(kind, int) or len(kind) == 1:
            return kind
        return (kind[0], *[self.resolved(inner) for inner in kind[1:]])


def renumbered(kind, numbers):
    """A kind with its unknowns numbered anew by a dict."""
    if isinstance(kind, int):
        return numbers[kind]
    if len(kind) == 1:
        return kind
    return (kind[0], *[renumbered(inner, numbers) for inner in kind[1:]])


def shifted(kind, first):
    """A kind with its unknowns numbered from this one on."""
    if isinstance(kind, int):
        return kind + first
    if len(kind) == 1:
        return kind
    return (kind[0], *[shifted(inner, first) for inner in kind[1:]])


def unknowns_in(kinds):
    """The unknowns in some kinds, each one once, in the order in which they appear."""
    found = {}
    waiting = list(kinds[::-1])
    while waiting:
        kind = waiting.pop()
        if isinstance(kind, int):
            found[kind] = True
        else:
            waiting.extend(kind[:0:-1])
    return list(found)
