"""Desks: each keeps a chain that is changed."""

from roundwaves.chains import MOST_STEPS, check_chain
from roundwaves.errors import InvalidStep, NothingToUndo, TooMany
from roundwaves.likeness import left_out, same
from roundwaves.ratios import is_integer
from roundwaves.steps import is_step


class Desk:
    """A chain that is changed step by step; changes can be undone, and performed again."""

    def __init__(self, chain):
        check_chain(chain)
        self._now = chain
        # The chains ahead of the changes that are not undone, and those behind the changes that are, the last one last.
        self._earlier = []
        self._undone = []

    def put(self, at, step):
        """Put in the step, so that it has this number; return whether the value becomes another one anywhere."""
        now = self._now
        if not is_integer(at) or not 0 <= at <= len(now) or not is_step(step):
            raise InvalidStep("not a step, or not a number that it can have")
        if len(now) == MOST_STEPS:
            raise TooMany("too many steps")
        return self._change(now[:at] + (step,) + now[at:])

    def take(self, at):
        """Take the step with this number away; return whether the value becomes another one anywhere."""
        return self._change(left_out(self._now, at))

    def undo(self):
        """Revert the last change; return whether the value becomes another one anywhere."""
        if not self._earlier:
            raise NothingToUndo("nothing to undo")
        becomes_another = not same(self._now, self._earlier[-1])
        self._undone.append(self._now)
        self._now = self._earlier.pop()
        return becomes_another

    def redo(self):
        """Perform the last undone change again; return whether the value becomes another one anywhere."""
        if not self._undone:
            raise NothingToUndo("nothing to perform again")
        becomes_another = not same(self._now, self._undone[-1])
        self._earlier.append(self._now)
        self._now = self._undone.pop()
        return becomes_another

    def chain(self):
        """The chain."""
        return self._now

    def _change(self, chain):
        """Go on to another chain; return whether the value becomes another one anywhere."""
        # What raises an exception comes first, so that nothing is changed then.
        becomes_another = not same(self._now, chain)
        self._earlier.append(self._now)
        self._now = chain
        self._undone = []
        return becomes_another

    def __len__(self):
        return len(self._earlier)

    def __eq__(self, other):
        return isinstance(other, Desk) and self._now == other._now and self._earlier == other._earlier
