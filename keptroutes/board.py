"""Boards: tables by name, each with prices, and commands that change them."""

from keptroutes.cheapest import cheapest
from keptroutes.errors import (
    DuplicateName, InvalidCommand, InvalidName, RouteError, UnknownMark, UnknownName, UnknownRow,
)
from keptroutes.tables import Table
from keptroutes.tasks import Prices, Task
from keptroutes.wishes import Wish

# How many arguments the commands of a batch have.
ARGUMENTS = {
    "create": 2, "put": 3, "take": 2, "price": 1, "lock": 2, "free": 2, "revise": 2, "drop": 1, "mark": 1, "back": 1,
}


def is_command(thing):
    """Return True if the object is a tuple of the name of a command and as many arguments as it has."""
    if not isinstance(thing, tuple) or len(thing) == 0:
        return False
    # Objects that are no strings are refused first: a dict cannot be asked for all of them.
    return isinstance(thing[0], str) and thing[0] in ARGUMENTS and len(thing) == 1 + ARGUMENTS[thing[0]]


def check_new(name, known):
    """Raise InvalidName if the object is no name, DuplicateName if it is one of those that are known."""
    # Names are strings like targets.
    if not Table.is_target(name):
        raise InvalidName("the argument is no name")
    if name in known:
        raise DuplicateName("the name is in use")


def check_row(table, prefix):
    """Raise UnknownRow if the object is not the prefix of a row."""
    if not isinstance(prefix, str) or prefix not in table.rows:
        raise UnknownRow("the table has no row with this prefix")


def with_single(prices, single):
    """Return these prices, to which prices of single rows and locks are added."""
    for prefix, price in single.items():
        prices = prices.with_row(prefix, price)
    return prices


def freed(prices, prefix):
    """Return these prices, in which the row has no price of its own and no lock."""
    single = {row: price for row, price in prices.single.items() if row != prefix}
    made = Prices(adding=prices.adding, changing=prices.changing, removing=prices.removing)
    return with_single(made, single)


class Board:
    """Tables by name, each with prices and what was spent on it; the log tells all commands."""

    def __init__(self):
        # These two dicts are replaced, never changed, so that marks, batches and copies may share them.
        self._entries = {}
        self._marks = {}
        self._log = []

    def _begin(self, word):
        # A command has failed unless it comes to its end.
        self._log.extend([word, "failed"])

    def _end(self):
        self._log[-1] = "done"

    def _entry(self, name):
        """Return the tuple (table, prices, amount) of a table."""
        if not isinstance(name, str) or name not in self._entries:
            raise UnknownName("there is no table with this name")
        return self._entries[name]

    def _keep(self, name, table, prices, spent):
        self._entries = {**self._entries, name: (table, prices, spent)}

    def create(self, name, width):
        """Add an empty table with the default prices."""
        self._begin("create")
        check_new(name, self._entries)
        self._keep(name, Table(width, {}), Prices(), 0)
        self._end()

    def put(self, name, prefix, target):
        """Add a row or change its target, whatever the prices."""
        self._begin("put")
        table, prices, spent = self._entry(name)
        self._keep(name, table.with_row(prefix, target), prices, spent)
        self._end()

    def take(self, name, prefix):
        """Remove a row; it is not locked any more."""
        self._begin("take")
        table, prices, spent = self._entry(name)
        self._keep(name, table.without(prefix), freed(prices, prefix), spent)
        self._end()

    def price(self, name, *, adding=1, changing=1, removing=1):
        """Set the three prices; prices of single rows and locks stay."""
        self._begin("price")
        table, prices, spent = self._entry(name)
        made = Prices(adding=adding, changing=changing, removing=removing)
        self._keep(name, table, with_single(made, prices.single), spent)
        self._end()

    def lock(self, name, prefix):
        """Lock a row."""
        self._begin("lock")
        table, prices, spent = self._entry(name)
        check_row(table, prefix)
        self._keep(name, table, prices.with_row(prefix, None), spent)
        self._end()

    def free(self, name, prefix):
        """Let a row have no price of its own and no lock any more."""
        self._begin("free")
        table, prices, spent = self._entry(name)
        check_row(table, prefix)
        self._keep(name, table, freed(prices, prefix), spent)
        self._end()

    def revise(self, name, rows):
        """Change a table to a cheapest solution for the wish with these rows and return its cost."""
        self._begin("revise")
        table, prices, spent = self._entry(name)
        price, made = cheapest(Task(table, Wish(table.width, rows), prices))
        self._keep(name, made, prices, spent + price)
        self._end()
        return price

    def drop(self, name):
        """Remove a table."""
        self._begin("drop")
        self._entry(name)
        self._entries = {kept: self._entries[kept] for kept in self._entries if kept != name}
        self._end()

    def mark(self, label):
        """Record all tables, prices and amounts under this label."""
        self._begin("mark")
        check_new(label, self._marks)
        self._marks = {**self._marks, label: self._entries}
        self._end()

    def back(self, label):
        """Restore what was recorded under this label; all marks stay."""
        self._begin("back")
        if not isinstance(label, str) or label not in self._marks:
            raise UnknownMark("there is no mark with this label")
        self._entries = self._marks[label]
        self._end()

    def batch(self, commands):
        """Execute a list of commands in order, all or none of them, and return the list of their results."""
        self._log.append("batch")
        entries = self._entries
        marks = self._marks
        try:
            results = self._results(commands)
        except RouteError:
            self._entries = entries
            self._marks = marks
            self._log.append("failed")
            raise
        self._log.append("done")
        return results

    def _results(self, commands):
        """Execute the items of a batch and return the list of their results."""
        if not isinstance(commands, list):
            raise InvalidCommand("the argument is no list")
        return [self._result(command) for command in commands]

    def _result(self, command):
        """Execute an item of a batch and return its result."""
        if not is_command(command):
            raise InvalidCommand("an item is no command with its arguments")
        actions = {
            "create": self.create, "put": self.put, "take": self.take, "price": self.price, "lock": self.lock,
            "free": self.free, "revise": self.revise, "drop": self.drop, "mark": self.mark, "back": self.back,
        }
        word, *arguments = command
        action = actions[word]
        return action(*arguments)

    @property
    def names(self):
        """The names of the tables, as a new list in ascending order."""
        return sorted(self._entries)

    def table_of(self, name):
        """Return a table."""
        table, _, _ = self._entry(name)
        return table

    def prices_of(self, name):
        """Return the prices of a table."""
        _, prices, _ = self._entry(name)
        return prices

    def spent_on(self, name):
        """Return the sum of the costs that revise returned for a table since it was created."""
        _, _, spent = self._entry(name)
        return spent

    @property
    def log(self):
        """The names of all commands and how they ended, as a new list."""
        return list(self._log)

    def copy(self):
        """Return an independent board with the same tables, prices, amounts and marks, and an empty log."""
        made = Board()
        made._entries = self._entries
        made._marks = self._marks
        return made
