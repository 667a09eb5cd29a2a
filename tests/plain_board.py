"""What boards must hold and which errors they must raise, kept in plain values and reckoned word by word."""

import copy
import re

from keptroutes.errors import (
    DuplicateName, InvalidMap, InvalidName, InvalidPrefix, InvalidPrices, NoSolution, RouteError, UnknownMark,
    UnknownName, UnknownRow,
)
from keptroutes.obstacles import first_obstacle
from keptroutes.tables import Table
from keptroutes.tasks import Task
from keptroutes.wishes import Wish
from tests.made import prices_of
from tests.samples import some_prefixes

NAMES = ('main', 'a', 'side', 'x')
DEFAULT = (1, 1, 1)


def is_word(thing):
    return isinstance(thing, str) and re.fullmatch('[a-z]{1,8}', thing) is not None


def is_number(thing, least, most):
    return type(thing) is int and least <= thing <= most


def is_some_prefix(thing, width):
    return isinstance(thing, str) and re.fullmatch(f'[01]{{0,{width}}}', thing) is not None


def shown(board):
    """Return all that a board shows besides its log, as plain values."""
    found = {}
    for name in board.names:
        table, prices = board.table_of(name), board.prices_of(name)
        three = (prices.adding, prices.changing, prices.removing)
        found[name] = [table.width, table.rows, three, prices.single, board.spent_on(name)]
    return found


class PlainBoard:
    """Tables as lists [width, rows, prices, prices of single rows, amount], by name, and marks by label."""

    def __init__(self):
        self.tables = {}
        self.marks = {}

    def copy(self):
        return copy.deepcopy(self)

    def row_error(self, name, prefix):
        if not self.has(name):
            return UnknownName
        return None if isinstance(prefix, str) and prefix in self.tables[name][1] else UnknownRow

    def has(self, name):
        return isinstance(name, str) and name in self.tables

    def task(self, name, rows):
        width, old, prices, single, _ = self.tables[name]
        return Task(Table(width, old), Wish(width, rows), prices_of(prices, single))

    def error_of(self, word, *arguments):
        """Return the class of the error that a command must raise, or None."""
        return getattr(self, f'{word}_error')(*arguments)

    def create_error(self, name, width):
        if not is_word(name):
            return InvalidName
        if name in self.tables:
            return DuplicateName
        return None if is_number(width, 1, 32) else InvalidMap

    def put_error(self, name, prefix, target):
        if not self.has(name):
            return UnknownName
        if not is_some_prefix(prefix, self.tables[name][0]):
            return InvalidPrefix
        return None if is_word(target) else InvalidMap

    def price_error(self, name, *prices):
        if not self.has(name):
            return UnknownName
        return None if all(is_number(price, 1, 999) for price in prices) else InvalidPrices

    def revise_error(self, name, rows):
        if not self.has(name):
            return UnknownName
        try:
            task = self.task(name, rows)
        except InvalidMap:
            return InvalidMap
        return None if first_obstacle(task) is None else NoSolution

    def drop_error(self, name):
        return None if self.has(name) else UnknownName

    def mark_error(self, label):
        if not is_word(label):
            return InvalidName
        return DuplicateName if label in self.marks else None

    def back_error(self, label):
        return None if isinstance(label, str) and label in self.marks else UnknownMark

    take_error = lock_error = free_error = row_error

    def do(self, word, *arguments):
        """Do a command that raises no error; a revision is told what the board made of it."""
        getattr(self, f'do_{word}')(*arguments)

    def do_create(self, name, width):
        self.tables[name] = [width, {}, DEFAULT, {}, 0]
        self.tables = dict(sorted(self.tables.items()))

    def do_put(self, name, prefix, target):
        rows = {**self.tables[name][1], prefix: target}
        self.tables[name][1] = dict(sorted(rows.items()))

    def do_take(self, name, prefix):
        del self.tables[name][1][prefix]
        self.tables[name][3].pop(prefix, None)

    def do_price(self, name, *prices):
        self.tables[name][2] = prices or DEFAULT

    def do_lock(self, name, prefix):
        single = {**self.tables[name][3], prefix: None}
        self.tables[name][3] = dict(sorted(single.items()))

    def do_free(self, name, prefix):
        self.tables[name][3].pop(prefix, None)

    def do_revise(self, name, made, price):
        self.tables[name][1] = made
        self.tables[name][4] += price

    def do_drop(self, name):
        del self.tables[name]

    def do_mark(self, label):
        self.marks[label] = copy.deepcopy(self.tables)

    def do_back(self, label):
        self.tables = copy.deepcopy(self.marks[label])


def ended(action):
    """Return the class of the error of this package that the action raises, or None, and what it returns."""
    try:
        return None, action()
    except RouteError as error:
        return error.__class__, None


def some_command(chance, plain):
    """Return a command as it stands in a batch; it may be wrong, but mostly it is not."""
    word = chance.choice(('create', 'put', 'put', 'put', 'take', 'price', 'lock', 'lock', 'free', 'revise', 'revise',
                          'drop', 'mark', 'back'))
    name = chance.choice(NAMES[:3] if chance.random() < 0.9 else NAMES)
    if word == 'create':
        return word, name, chance.choice((1, 2, 3, 3, 3, 32, 0))
    if word in ('price', 'drop', 'mark', 'back'):
        return word, name
    width, rows = plain.tables[name][:2] if name in plain.tables else (2, {})
    prefix = (some_prefixes(chance, width, 2) or [''])[-1]
    if word == 'put':
        return word, name, prefix, chance.choice('abc' if chance.random() < 0.9 else 'A1')
    if word == 'revise':
        allowed = chance.sample([None, 'a', 'b', 'c'], chance.choice((0, 1, 1, 2)))
        return word, name, {prefix: allowed}
    return word, name, chance.choice(list(rows) + [prefix])
