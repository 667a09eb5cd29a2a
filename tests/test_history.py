"""Points 2 and 23: histories."""

import unittest

from keptroutes.cheapest import least_cost
from keptroutes.errors import (
    InvalidMap, InvalidPair, InvalidPrefix, NoSolution, NothingToUndo, UnknownRow, UnknownVersion,
)
from keptroutes.history import History
from keptroutes.obstacles import first_obstacle
from keptroutes.tables import Table
from keptroutes.tasks import Prices, Task, cost
from keptroutes.wishes import Wish
from tests.made import PRICE_CHOICES, prices_of
from tests.samples import (
    NO_STRINGS, NO_TARGETS, RefusingTest, chances, kept_as_it_was, nested, raises, some_prefixes, some_table_rows,
    some_wish_rows, wrong_prefixes,
)

NO_INDEXES = tuple(thing for thing in NO_STRINGS if isinstance(thing, bool) or not isinstance(thing, int)) + (
    '', '0', '1', '-1', 'latest', nested(20), [0], (0,), {0: 0})


class ExampleTest(unittest.TestCase):
    def test_example_of_the_document(self):
        history = History(Table.of(2, ('', 'a')))
        found = [history.revise(Wish(2, {'': ['a'], '01': ['b']}), Prices(adding=4)), history.latest.rows]
        self.assertEqual(found, [4, {'': 'a', '01': 'b'}])
        self.assertIsNone(history.undo())
        self.assertEqual([len(history), history.spent], [1, 0])


class CheckedTest(RefusingTest):
    def holds(self, history, versions, costs):
        """Check that the history has just these rows and costs."""
        self.assertEqual([len(history), history.spent], [len(versions), sum(costs)])
        self.assertEqual(history.latest.rows, versions[-1])
        found = [history.version(index) for index in range(len(versions))]
        self.assertTrue(all(type(table) is Table for table in found))
        self.assertEqual([table.rows for table in found], versions)
        for index in (-1, len(versions), len(versions) + 1, -len(versions)):
            raises(self, UnknownVersion, lambda: history.version(index))


class Walk:
    """A history together with the rows and costs that it must have."""

    def __init__(self, width, rows):
        self.width = width
        self.history = History(Table(width, rows))
        self.versions = [dict(sorted(rows.items()))]
        self.costs = [0]

    def add(self, rows, price):
        self.versions.append(dict(sorted(rows.items())))
        self.costs.append(price)

    def copy(self):
        made = Walk(self.width, {})
        made.history = self.history.copy()
        made.versions, made.costs = list(self.versions), list(self.costs)
        return made


class DrawnTest(CheckedTest):
    """Steps in drawn orders."""

    def revise(self, chance, walk):
        table = walk.history.latest
        single = {prefix: chance.choice(PRICE_CHOICES + (None, None)) for prefix in table.rows if chance.random() < 0.4}
        prices = prices_of(tuple(chance.choice(PRICE_CHOICES) for _ in range(3)), single)
        wish = Wish(walk.width, some_wish_rows(chance, walk.width, chance.randint(0, 2), 'abc'))
        task = Task(table, wish, prices)
        least = least_cost(task)
        if least is None:
            with self.assertRaises(NoSolution) as caught:
                walk.history.revise(wish, prices)
            self.assertEqual(caught.exception.leaf, first_obstacle(task))
            return
        self.assertEqual(walk.history.revise(wish, prices), least)
        made = walk.history.latest
        self.assertEqual(cost(task, made), least)
        self.assertIs(wish.is_fulfilled(made), True)
        for prefix, price in single.items():
            if price is None:
                self.assertEqual(made.rows[prefix], table.rows[prefix])
        if wish.is_fulfilled(table):
            self.assertEqual([least, made], [0, table])
        walk.add(made.rows, least)

    def put(self, chance, walk):
        prefix = (some_prefixes(chance, walk.width, 1) + list(walk.versions[-1]))[0]
        target = chance.choice('abc')
        self.assertIsNone(walk.history.put(prefix, target))
        walk.add({**walk.versions[-1], prefix: target}, 0)

    def cut(self, chance, walk):
        prefix = chance.choice(list(walk.versions[-1]) + [''])
        if prefix not in walk.versions[-1]:
            raises(self, UnknownRow, lambda: walk.history.cut(prefix))
            return
        self.assertIsNone(walk.history.cut(prefix))
        walk.add({kept: target for kept, target in walk.versions[-1].items() if kept != prefix}, 0)

    def undo(self, _, walk):
        if len(walk.versions) == 1:
            raises(self, NothingToUndo, walk.history.undo)
            return
        self.assertIsNone(walk.history.undo())
        walk.versions.pop()
        walk.costs.pop()

    def check(self, chance, width):
        walks = [Walk(width, some_table_rows(chance, width, chance.randint(0, 5), 'abc'))]
        steps = (self.revise, self.revise, self.put, self.put, self.cut, self.undo)
        for _ in range(25):
            walk = chance.choice(walks)
            chance.choice(steps)(chance, walk)
            if len(walks) < 4 and chance.random() < 0.1:
                walks.append(walk.copy())
            for each in walks:
                self.holds(each.history, each.versions, each.costs)
        for walk in walks:
            while len(walk.versions) > 1:
                self.undo(chance, walk)
                for each in walks:
                    self.holds(each.history, each.versions, each.costs)
            self.undo(chance, walk)
            self.holds(walk.history, walk.versions[:1], [0])

    def test_small_widths(self):
        for chance in chances(20):
            for width in (1, 2, 3):
                self.check(chance, width)

    def test_large_widths(self):
        for chance in chances(2):
            for width in range(4, 33):
                self.check(chance, width)


class HistoryTest(CheckedTest):
    def setUp(self):
        self.history = History(Table.of(2, ('', 'a')))
        self.history.put('1', 'b')
        self.history.revise(Wish(2, {'00': ['a'], '01': ['c']}), Prices(adding=6, changing=9))
        self.versions = [{'': 'a'}, {'': 'a', '1': 'b'}, {'': 'a', '01': 'c', '1': 'b'}]
        self.costs = [0, 0, 6]

    def test_the_beginning(self):
        for width in range(1, 33):
            table = Table(width, {'1' * width: 'a'})
            history = History(table)
            self.holds(history, [{'1' * width: 'a'}], [0])
            self.assertEqual([history.latest, history.version(0)], [table, table])

    def test_a_wish_that_is_fulfilled(self):
        for wish in (Wish(2, {}), Wish(2, {'01': ['c', None]}), Wish.exact(self.history.latest)):
            self.assertEqual(self.history.revise(wish, Prices(adding=9, changing=9, removing=9)), 0)
            self.versions.append(self.versions[-1])
            self.costs.append(0)
            self.holds(self.history, self.versions, self.costs)

    def test_locked_rows_and_own_prices(self):
        prices = Prices(adding=5, changing=2).with_row('', None).with_row('1', 9)
        self.assertEqual(self.history.revise(Wish(2, {'1': ['c'], '00': ['c']}), prices), 10 + 4)
        self.assertEqual(self.history.latest.rows[''], 'a')
        self.assertEqual([len(self.history), self.history.spent], [4, 20])
        self.history.undo()
        self.holds(self.history, self.versions, self.costs)

    def test_invalid_pair_comes_before_no_solution(self):
        for width in (1, 3, 32):
            for rows in ({}, {'': []}, {'0': [None]}):
                raises(self, InvalidPair, lambda: self.history.revise(Wish(width, rows), Prices()))
        with self.assertRaises(NoSolution) as caught:
            self.history.revise(Wish(2, {'1': []}), Prices())
        self.assertEqual(caught.exception.leaf, '10')
        with self.assertRaises(NoSolution) as caught:
            self.history.revise(Wish(2, {'': [None]}), Prices().with_row('', None))
        self.assertEqual(caught.exception.leaf, '00')
        self.holds(self.history, self.versions, self.costs)

    def test_wrong_rows(self):
        for prefix in wrong_prefixes(2):
            self.refused(InvalidPrefix, lambda thing: self.history.put(thing, 'a'), prefix)
            self.refused(InvalidPrefix, lambda thing: self.history.put(thing, 'A'), prefix)
            self.refused(UnknownRow, self.history.cut, prefix)
        for target in NO_TARGETS:
            self.refused(InvalidMap, lambda thing: self.history.put('1', thing), target)
            self.refused(InvalidMap, lambda thing: self.history.put('00', thing), target)
        for prefix in ('0', '00', '10', '11'):
            self.refused(UnknownRow, self.history.cut, prefix)
        self.holds(self.history, self.versions, self.costs)

    def test_indexes_that_are_none(self):
        for thing in NO_INDEXES + (-1, 3, 4, -3, 10 ** 39, -10 ** 39):
            with self.subTest(repr(thing)[:60]):
                kept_as_it_was(self, thing, lambda: raises(
                    self, UnknownVersion, lambda: self.history.version(thing)))
        for thing in (True, False, 1, '0', None):
            raises(self, UnknownVersion, lambda: History(Table(1, {})).version(thing))
        self.holds(self.history, self.versions, self.costs)

    def test_versions_that_are_taken_back_are_unknown(self):
        self.assertEqual(self.history.version(2).rows, self.versions[2])
        self.history.undo()
        raises(self, UnknownVersion, lambda: self.history.version(2))
        self.history.cut('')
        self.assertEqual(self.history.version(2).rows, {'1': 'b'})
        self.holds(self.history, self.versions[:2] + [{'1': 'b'}], [0, 0, 0])

    def test_undo_down_to_version_0(self):
        spent = []
        for _ in range(3):
            self.history.revise(Wish(2, {'': [chr(ord('p') + len(self.history))]}), Prices(adding=9))
        while len(self.history) > 1:
            spent.append(self.history.spent)
            self.history.undo()
        self.assertEqual(spent, sorted(spent, reverse=True))
        self.assertGreater(spent[0], spent[-1])
        for _ in range(2):
            raises(self, NothingToUndo, self.history.undo)
            self.holds(self.history, self.versions[:1], [0])

    def test_copies(self):
        copies = [self.history.copy()]
        self.history.put('0', 'z')
        copies.append(self.history.copy())
        self.history.undo()
        self.history.undo()
        self.holds(copies[0], self.versions, self.costs)
        self.holds(copies[1], self.versions + [{**self.versions[2], '0': 'z'}], self.costs + [0])
        again = copies[0].copy()
        while len(copies[0]) > 1:
            copies[0].undo()
        raises(self, NothingToUndo, copies[0].undo)
        copies[0].put('11', 'y')
        self.holds(copies[0], [{'': 'a'}, {'': 'a', '11': 'y'}], [0, 0])
        self.holds(again, self.versions, self.costs)
        self.holds(self.history, self.versions[:2], self.costs[:2])
        self.assertIs(type(again), History)

    def test_tables_that_were_returned_stay(self):
        found = [self.history.version(index) for index in range(3)] + [self.history.latest]
        self.history.undo()
        self.history.put('', 'q')
        found[0].rows.clear()
        found[3].with_row('0', 'r')
        self.history.latest.rows['0'] = 's'
        self.assertEqual([table.rows for table in found], self.versions + [self.versions[2]])
        self.holds(self.history, self.versions[:2] + [{'': 'q', '1': 'b'}], [0, 0, 0])

    def test_arguments_by_name(self):
        history = History(table=Table(2, {}))
        self.assertIsNone(history.put(target='a', prefix='1'))
        self.assertEqual(history.revise(prices=Prices(adding=7), wish=Wish(2, {'0': ['b']})), 7)
        self.assertEqual(history.version(index=1), Table.of(2, ('1', 'a')))
        self.assertIsNone(history.cut(prefix='1'))
        self.assertEqual([history.latest.lookup('01'), len(history), history.spent], ['b', 4, 7])

    def test_forty_rows(self):
        for chance in chances(2):
            rows = some_table_rows(chance, 32, 60, 'abcdef')
            history = History(Table(32, rows))
            for prefix in list(rows)[:20]:
                history.put(prefix, 'zz')
            wish = Wish.exact(Table(32, rows))
            price = history.revise(wish, Prices(adding=3, changing=2))
            self.assertEqual(price, least_cost(Task(history.version(20), wish, Prices(adding=3, changing=2))))
            self.assertEqual([len(history), history.spent], [22, price])
            self.assertIs(wish.is_fulfilled(history.latest), True)
