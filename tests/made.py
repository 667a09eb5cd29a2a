"""Tasks that look random, together with the parts of which they are made."""

from keptroutes.tables import Table
from keptroutes.tasks import Prices, Task
from keptroutes.wishes import Wish
from tests.samples import some_prefixes, some_table_rows, some_wish_rows

PRICE_CHOICES = (1, 1, 2, 3, 7, 20, 999)


class Parts:
    """A task and the plain values from which it is made."""

    def __init__(self, width, table, wish, prices, single):
        self.width = width
        self.table = table
        self.wish = wish
        self.prices = prices
        self.single = single
        self.task = Task(Table(width, table), Wish(width, wish), prices_of(prices, single))

    def changed(self, **parts):
        """Return parts of which some are replaced."""
        kept = {name: getattr(self, name) for name in ('width', 'table', 'wish', 'prices', 'single')}
        return Parts(**{**kept, **parts})

    def __repr__(self):
        return repr((self.width, self.table, self.wish, self.prices, self.single))


def prices_of(prices, single):
    """Return prices with these for adding, changing and removing, and rows with prices of their own."""
    adding, changing, removing = prices
    made = Prices(adding=adding, changing=changing, removing=removing)
    for prefix, price in single.items():
        made = made.with_row(prefix, price)
    return made


def some_parts(chance, width, rows=4, wishes=4, targets='ab'):
    """Return the parts of a task with up to so many rows in its table and in its wish."""
    table = some_table_rows(chance, width, chance.randint(0, rows), targets)
    wish = some_wish_rows(chance, width, chance.randint(0, wishes), targets)
    prices = tuple(chance.choice(PRICE_CHOICES) for _ in range(3))
    single = {}
    for prefix in list(table) + some_prefixes(chance, width, 2):
        if chance.random() < 0.4:
            single[prefix] = chance.choice(PRICE_CHOICES + (None, None))
    return Parts(width, table, wish, prices, single)


def large_parts(chance, width, many, names=8):
    """Return the parts of a task that has a solution, with about so many rows in its table and in its wish."""
    targets = [f'{letter}x' for letter in 'abcdefghijklmnopqrstuvwxyz'[:names]]
    table = some_table_rows(chance, width, many, targets)
    wish = {prefix: chance.sample(targets + [None], 2) for prefix in some_prefixes(chance, width, many)}
    # Rows of a table that are addresses stay free, so that no lock is against the wish.
    single = {prefix: chance.choice((1, 5, 50, None)) for prefix in table if len(prefix) < width}
    return Parts(width, table, wish, (7, 5, 3), single)
