"""Plans, which walk through the changes from one table to another, and the addresses that these move."""

from keptroutes.cheapest import cheapest
from keptroutes.errors import NothingToUndo, PlanFinished
from keptroutes.merging import merge_task
from keptroutes.prefixes import address_before, check_pair, run_starts
from keptroutes.sequences import changes, moments


def moved_runs(before, after):
    """Return the longest runs that lead elsewhere, as tuples (first, last, target before, target after)."""
    check_pair(before, after)
    found = []
    # Within a run that no prefix cuts all addresses lead to the same in both tables.
    for start in run_starts(before.width, list(before.rows) + list(after.rows)):
        pair = (before.lookup(start), after.lookup(start))
        if len(found) == 0 or found[-1][1] != pair:
            found.append((start, pair))
    lasts = [address_before(start) for start, _ in found[1:]] + ["1" * before.width]
    return [(first, last, was, now) for (first, (was, now)), last in zip(found, lasts) if was != now]


def switches(old, new):
    """Yield the runs that each of the changes from the old to the new table moves."""
    before = old
    for after in moments(old, new):
        yield moved_runs(before, after)
        before = after


class Plan:
    """The changes from an old to a new table, of which some are done."""

    def __init__(self, old, new):
        self._old = old
        self._new = new
        self._steps = changes(old, new)
        self._tables = [old] + list(moments(old, new))
        self._done = 0

    @property
    def steps(self):
        """All changes, as a new list."""
        return list(self._steps)

    @property
    def done(self):
        """The number of the steps that are done."""
        return self._done

    @property
    def current(self):
        """The table after the steps that are done."""
        return self._tables[self._done]

    @property
    def is_finished(self):
        """True if all steps are done."""
        return self._done == len(self._steps)

    def advance(self):
        """Do the next step and return it."""
        if self.is_finished:
            raise PlanFinished("all steps are done")
        self._done += 1
        return self._steps[self._done - 1]

    def back(self):
        """Take back the last step that is done and return it."""
        if self._done == 0:
            raise NothingToUndo("no step is done")
        self._done -= 1
        return self._steps[self._done]

    def finish(self):
        """Do all steps that remain and return their number."""
        many = len(self._steps) - self._done
        self._done = len(self._steps)
        return many

    def abandon(self):
        """Take back all steps that are done and return their number."""
        many = self._done
        self._done = 0
        return many

    def rebased(self, table, prices):
        """Return a plan from this table to a cheapest solution in which the changes of this plan are merged."""
        _, solution = cheapest(merge_task(self._old, table, self._new, prices))
        return Plan(table, solution)

    def copy(self):
        """Return an independent plan in the same state."""
        made = Plan(self._old, self._new)
        made._done = self._done
        return made
