"""The stepper: forth and back along a run."""

from saidanew.reading import turned
from saidanew.steps import line_of, outcome
from saidanew.tracks import Track
from saidanew.trees import inked


class Stepper:
    """Stands at a state of a run, and goes forth and back."""

    def __init__(self, program, state=None):
        self._track = Track(program, program.start if state is None else state)
        self._move_to(0)

    def __iter__(self):
        return iter(self._trail)

    @property
    def number(self):
        """The number of the present state."""
        return self._at

    @property
    def state(self):
        """The present state."""
        return self._track.states[self._at]

    @property
    def said(self):
        """All that was said on the way from state 0 to the present one."""
        track = self._track
        return tuple(track.told[:track.heard[self._at]])

    @property
    def is_end(self):
        """Whether the present state is the end of the run."""
        return outcome(self._track.states[self._at]) is not None

    def line(self):
        """The line of the present state, or None."""
        return line_of(self._track.program, self.state)

    def forth(self, many=1):
        """Goes on by so many steps, or to the end, and returns how many they were."""
        before = self._at
        self._move_to(self._track.farthest(before + max(0, many)))
        return self._at - before

    def back(self, many=1):
        """Goes back by so many steps, or to state 0, and returns how many they were."""
        before = self._at
        self._move_to(max(0, before - max(0, many)))
        return before - self._at

    def next_line(self, *, most=5000):
        """Goes on to the next shown state and returns its line; stays if there is none within so many steps."""
        found = self._track.next_shown(self._at, most)
        if found is None:
            return None
        number, line = found
        self._move_to(number)
        return line

    def lines(self, *, most=5000):
        """The pairs of number and line of the shown states from the present one on."""
        track = self._track
        first = number = self._at
        while number <= first + most and track.reaches(number):
            line = line_of(track.program, track.states[number])
            if line is not None:
                yield (number, line)
            number += 1

    def over(self, path, *, most=5000):
        """Goes over the use at a path of the line, and returns how many steps they were."""
        before = self._at
        self._move_to(self._track.number_over(before, path, most))
        return self._at - before

    def _move_to(self, number):
        self._at = number
        # A new list each time, so that who iterates is not led to states that come later.
        self._trail = self._track.states[:number + 1]


def at_work(program, state):
    """The words whose templates are at work in a state, ascending."""
    back = turned(program.book, state.term)
    words = {ink[-1][0]: True for _, ink in inked(back)}
    return tuple(sorted(words))
