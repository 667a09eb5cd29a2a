"""Tasks: an old table, a wish, and the prices of changing the table."""

from keptroutes.errors import InvalidPrices
from keptroutes.maps import WIDEST, is_prefix, is_whole
from keptroutes.prefixes import check_pair, closure

HIGHEST_PRICE = 999


def is_price(thing):
    """Return True if the object is a price."""
    return is_whole(thing) and 1 <= thing <= HIGHEST_PRICE


class Prices:
    """What it costs to add, change and remove rows; they do not change."""

    def __init__(self, *, adding=1, changing=1, removing=1):
        for price in (adding, changing, removing):
            if not is_price(price):
                raise InvalidPrices("a price is no integer from 1 to 999")
        self._adding = adding
        self._changing = changing
        self._removing = removing
        self._single = {}

    @property
    def adding(self):
        """The price for adding a row."""
        return self._adding

    @property
    def changing(self):
        """The price for changing a row that has none of its own."""
        return self._changing

    @property
    def removing(self):
        """The price for removing a row that has none of its own."""
        return self._removing

    @property
    def single(self):
        """The rows with a price of their own, None for locked, as a new dict in ascending order."""
        return dict(self._single)

    def with_row(self, prefix, price):
        """Return prices in which the row with this prefix has a price of its own, or is locked for None."""
        if not is_prefix(prefix, WIDEST):
            raise InvalidPrices("the argument is no string of at most 32 bits")
        if price is not None and not is_price(price):
            raise InvalidPrices("the price of a row is neither None nor an integer from 1 to 999")
        single = {**self._single, prefix: price}
        made = Prices(adding=self._adding, changing=self._changing, removing=self._removing)
        made._single = {row: single[row] for row in sorted(single)}
        return made

    def to_change(self, prefix):
        """Return the price for changing the row with this prefix, or None if it is locked."""
        return self._single.get(prefix, self._changing)

    def to_remove(self, prefix):
        """Return the price for removing the row with this prefix, or None if it is locked."""
        return self._single.get(prefix, self._removing)


def named_targets(table, wish):
    """Return the ascending list of the different targets of a table and a wish."""
    found = {target: True for target in table.targets}
    for allowed in wish.rows.values():
        for target in allowed:
            if target is not None:
                found[target] = True
    return sorted(found)


class Task:
    """An old table, a wish of the same width, and prices; it does not change."""

    def __init__(self, table, wish, prices):
        check_pair(table, wish)
        self._table = table
        self._wish = wish
        self._prices = prices
        longer = [prefix + bit for prefix in table.rows for bit in "01" if len(prefix) < table.width]
        self._nodes = closure(list(table.rows) + list(wish.rows) + longer)
        inner = {node[:-1]: True for node in self._nodes if node != ""}
        self._leaves = {node: True for node in self._nodes if node not in inner}
        self._choices = [None] + named_targets(table, wish)

    @property
    def table(self):
        """The old table."""
        return self._table

    @property
    def wish(self):
        """The wish."""
        return self._wish

    @property
    def prices(self):
        """The prices."""
        return self._prices

    @property
    def nodes(self):
        """The nodes, as a new list in ascending order."""
        return list(self._nodes)

    @property
    def leaves(self):
        """The leaves, as a new list in ascending order."""
        return list(self._leaves)

    @property
    def choices(self):
        """None and the targets of the table and of the wish in ascending order, as a new list."""
        return list(self._choices)

    def is_leaf(self, thing):
        """Return True if the object is a leaf."""
        # Objects that are no strings are refused first: a dict cannot be asked for all of them.
        return isinstance(thing, str) and thing in self._leaves

    def allowed_at(self, leaf):
        """Return the tuple of what all addresses of the leaf are allowed, or "any" if no row counts for them."""
        return self._wish.allowed(leaf.ljust(self._wish.width, "0"))

    def locked_rows(self):
        """Return the locked rows of the old table."""
        rows = self._table.rows
        return {prefix: rows[prefix] for prefix in rows if self._prices.to_change(prefix) is None}


def cost(task, table):
    """Return the cost of a new table, or None if it is not admitted."""
    check_pair(task.table, table)
    old = task.table.rows
    new = table.rows
    prices = task.prices
    paid = [prices.adding for prefix in new if prefix not in old]
    for prefix, target in old.items():
        if prefix not in new:
            paid.append(prices.to_remove(prefix))
        elif new[prefix] != target:
            paid.append(prices.to_change(prefix))
    # A price of None is that of a locked row.
    if None in paid:
        return None
    return sum(paid)


def is_solution(task, table):
    """Return True if the new table is admitted and fulfils the wish."""
    return cost(task, table) is not None and task.wish.is_fulfilled(table)
