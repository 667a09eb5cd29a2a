"""Tables with as few rows as their meaning allows."""

from keptroutes.cheapest import cheapest
from keptroutes.tables import Table
from keptroutes.tasks import Prices, Task
from keptroutes.wishes import Wish


def fewest_rows(wish):
    """Return a table with the least number of rows that fulfils the wish."""
    # Where the old table is empty and each row costs one to add, the cost of a table is the number of its rows.
    _, table = cheapest(Task(Table(wish.width, {}), wish, Prices(adding=1)))
    return table


def fewest_equal(table):
    """Return a table with the least number of rows that has the same meaning as this one."""
    return fewest_rows(Wish.exact(table))
