"""Over the whole program: answers stay the same up to the exchange of the bits, or of targets one to one."""

import unittest

from keptroutes.certificates import certificate, check_certificate
from keptroutes.cheapest import least_cost
from keptroutes.errors import NoSolution
from keptroutes.fewest import fewest_equal, fewest_rows
from keptroutes.merging import conflicts, merge_task, merge_wish
from keptroutes.obstacles import is_obstacle, obstacles
from keptroutes.plans import moved_runs, switches
from keptroutes.sequences import changes, is_safe, moments
from keptroutes.stretches import first_difference, same_meaning, stretches
from keptroutes.tables import Table
from keptroutes.tasks import Task, cost, is_solution
from keptroutes.wishes import Wish
from tests.made import prices_of, some_parts
from tests.samples import addresses, chances, near_rows, some_table_rows, some_wish_rows

WIDTHS = (1, 2, 3, 4, 17, 32)
NAMES = {'a': 'm', 'b': 'a', 'c': 'zz', 'd': 'b', None: None}


class Exchange:
    """Other prefixes and targets for all prefixes and targets."""

    def __init__(self, bits, names):
        self.bits = str.maketrans('01', bits)
        self.names = names

    def prefix(self, prefix):
        return None if prefix is None else prefix.translate(self.bits)

    def target(self, target):
        return self.names.get(target, target)

    def table(self, table):
        return Table(table.width, {self.prefix(prefix): self.target(target) for prefix, target in table.walk()})

    def wish(self, wish):
        rows = {self.prefix(prefix): [self.target(target) for target in allowed] for prefix, allowed in wish.walk()}
        return Wish(wish.width, rows)

    def changes(self, found):
        return [(self.prefix(prefix), self.target(target)) for prefix, target in found]

    def runs(self, found):
        """Return the runs in ascending order; if the bits are exchanged, their ends are, too."""
        return sorted((*sorted((self.prefix(first), self.prefix(last))), *[self.target(target) for target in targets])
                      for first, last, *targets in found)

    def single(self, single):
        return {self.prefix(prefix): price for prefix, price in single.items()}


BITS = Exchange('10', {})
TARGETS = Exchange('01', NAMES)
BOTH = Exchange('10', NAMES)


def order(found):
    """Return the kinds and lengths of changes, which no exchange alters."""
    return [(len(prefix), target is None) for prefix, target in found]


class PairTest(unittest.TestCase):
    def pairs(self):
        for chance in chances(25):
            for width in WIDTHS:
                one = some_table_rows(chance, width, 6, 'abcd')
                for rows in (near_rows(chance, width, one, 'abcd'), some_table_rows(chance, width, 6, 'abcd')):
                    for exchange in (BITS, TARGETS, BOTH):
                        yield chance, exchange, Table(width, one), Table(width, rows)

    def test_tables(self):
        for _, exchange, one, two in self.pairs():
            three, four = exchange.table(one), exchange.table(two)
            self.assertEqual(stretches(three), exchange.runs(stretches(one)))
            self.assertIs(same_meaning(three, four), same_meaning(one, two))
            if exchange is TARGETS:
                self.assertEqual(first_difference(three, four), first_difference(one, two))
            self.assertEqual(len(fewest_equal(three)), len(fewest_equal(one)))
            self.assertIs(same_meaning(exchange.table(fewest_equal(one)), fewest_equal(three)), True)
            if one.width < 5:
                for address in addresses(one.width):
                    found = three.lookup(exchange.prefix(address))
                    self.assertEqual(found, exchange.target(one.lookup(address)))

    def test_sequences(self):
        for chance, exchange, one, two in self.pairs():
            three, four = exchange.table(one), exchange.table(two)
            found = exchange.changes(changes(one, two))
            self.assertEqual(sorted(found, key=str), sorted(changes(three, four), key=str))
            self.assertEqual(order(found), order(changes(three, four)))
            if exchange is TARGETS:
                self.assertEqual(found, changes(three, four))
                tables = [exchange.table(table) for table in moments(one, two)]
                self.assertEqual(tables, list(moments(three, four)))
                self.assertEqual([exchange.runs(runs) for runs in switches(one, two)], list(switches(three, four)))
            self.assertEqual(len(list(moments(three, four))), len(found))
            self.assertEqual(moved_runs(three, four), exchange.runs(moved_runs(one, two)))
            for _ in range(4):
                some = chance.sample(changes(one, two), len(found))
                self.assertIs(is_safe(three, four, exchange.changes(some)), is_safe(one, two, some))

    def test_merges(self):
        for chance, exchange, one, two in self.pairs():
            base = Table(one.width, near_rows(chance, one.width, one.rows, 'abcd'))
            some, other = [base, one, two], [exchange.table(table) for table in (base, one, two)]
            self.assertEqual(exchange.wish(merge_wish(*some)), merge_wish(*other))
            self.assertEqual(sorted(exchange.prefix(leaf) for leaf in conflicts(*some)), conflicts(*other))
            single = {prefix: chance.choice((None, 1, 9)) for prefix in list(one.rows)[:2]}
            task = merge_task(*some, prices_of((3, 2, 1), single))
            changed = merge_task(*other, prices_of((3, 2, 1), exchange.single(single)))
            self.assertEqual(least_cost(task), least_cost(changed))


def fewest(wish):
    """Return the least number of rows, or None."""
    try:
        return len(fewest_rows(wish))
    except NoSolution:
        return None


class TaskTest(unittest.TestCase):
    def samples(self):
        for chance in chances(25):
            for width in WIDTHS:
                parts = some_parts(chance, width, 5, 5, 'abcd')
                for exchange in (BITS, TARGETS, BOTH):
                    prices = prices_of(parts.prices, exchange.single(parts.single))
                    changed = Task(exchange.table(parts.task.table), exchange.wish(parts.task.wish), prices)
                    yield chance, exchange, parts.task, changed

    def test_wishes(self):
        for chance, exchange, task, changed in self.samples():
            self.assertEqual(fewest(task.wish), fewest(changed.wish))
            self.assertEqual(exchange.wish(Wish.exact(task.table)), Wish.exact(changed.table))
            table = Table(task.wish.width, some_table_rows(chance, task.wish.width, 4, 'abcd'))
            self.assertIs(task.wish.is_fulfilled(table), changed.wish.is_fulfilled(exchange.table(table)))
            if exchange is TARGETS:
                self.assertEqual(task.wish.first_failure(table), changed.wish.first_failure(exchange.table(table)))

    def test_tasks(self):
        for chance, exchange, task, changed in self.samples():
            for some, other in ((task.nodes, changed.nodes), (task.leaves, changed.leaves),
                                (obstacles(task), obstacles(changed))):
                self.assertEqual(sorted(exchange.prefix(node) for node in some), list(other))
            for leaf in task.leaves:
                self.assertIs(is_obstacle(task, leaf), is_obstacle(changed, exchange.prefix(leaf)))
            self.assertEqual({exchange.target(choice) for choice in task.choices}, set(changed.choices))
            for rows in (some_table_rows(chance, task.table.width, 4, 'abcd'), {}, task.table.rows):
                table = Table(task.table.width, rows)
                self.assertEqual(cost(task, table), cost(changed, exchange.table(table)))
                self.assertIs(is_solution(task, table), is_solution(changed, exchange.table(table)))

    def test_least_costs_and_certificates(self):
        for _, exchange, task, changed in self.samples():
            least = least_cost(task)
            self.assertEqual(least_cost(changed), least)
            places = [changed.choices.index(exchange.target(choice)) for choice in task.choices]
            thing = {}
            for node, entries in certificate(task).items():
                row = [0] * len(entries)
                for place, entry in zip(places, entries):
                    row[place] = entry
                thing[exchange.prefix(node)] = row
            self.assertIs(check_certificate(changed, thing, least), True)
            if least is not None:
                self.assertIs(check_certificate(changed, thing, least + 1), False)


class WishRowsTest(unittest.TestCase):
    def test_allowed(self):
        for chance in chances(40):
            for width in (1, 2, 3, 4):
                wish = Wish(width, some_wish_rows(chance, width, 5, 'abcd'))
                for exchange in (BITS, TARGETS, BOTH):
                    changed = exchange.wish(wish)
                    for address in addresses(width):
                        allowed = wish.allowed(address)
                        if allowed != 'any':
                            allowed = {exchange.target(target) for target in allowed}
                        found = changed.allowed(exchange.prefix(address))
                        self.assertEqual(found if found == 'any' else set(found), allowed)
