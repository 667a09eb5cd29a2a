"""Histories: the versions of a table."""

from keptroutes.cheapest import cheapest
from keptroutes.errors import NothingToUndo, UnknownVersion
from keptroutes.maps import is_whole
from keptroutes.tasks import Task


class History:
    """The versions of a table, each with what it cost to make it; version 0 is the table of the beginning."""

    def __init__(self, table):
        self._versions = [table]
        self._costs = [0]

    def _add(self, table, price):
        self._versions.append(table)
        self._costs.append(price)

    def revise(self, wish, prices):
        """Add a cheapest solution for the latest version as a new version and return its cost."""
        price, table = cheapest(Task(self.latest, wish, prices))
        self._add(table, price)
        return price

    def put(self, prefix, target):
        """Add a version in which this row is added or has this target."""
        self._add(self.latest.with_row(prefix, target), 0)

    def cut(self, prefix):
        """Add a version without the row of this prefix."""
        self._add(self.latest.without(prefix), 0)

    def version(self, index):
        """Return the version with this index."""
        if not is_whole(index) or not 0 <= index < len(self._versions):
            raise UnknownVersion("the argument is not the index of a version")
        return self._versions[index]

    def undo(self):
        """Take back the latest version."""
        if len(self._versions) == 1:
            raise NothingToUndo("there is only version 0")
        self._versions.pop()
        self._costs.pop()

    def __len__(self):
        return len(self._versions)

    @property
    def latest(self):
        """The latest version."""
        return self._versions[-1]

    @property
    def spent(self):
        """The sum of the costs that revise returned for the versions that still exist."""
        return sum(self._costs)

    def copy(self):
        """Return an independent history with the same versions and costs."""
        made = History(self._versions[0])
        made._versions = list(self._versions)
        made._costs = list(self._costs)
        return made
