"""Points 2, 4 and 19: tables with as few rows as possible."""

import unittest

from keptroutes.certificates import certificate, check_certificate
from keptroutes.errors import NoSolution
from keptroutes.fewest import fewest_equal, fewest_rows
from keptroutes.obstacles import first_obstacle
from keptroutes.stretches import same_meaning
from keptroutes.tables import Table
from keptroutes.tasks import Prices, Task
from keptroutes.wishes import Wish
from tests.reference import all_tables, allowed_at, failures, leaves_of, nodes_of, target_at
from tests.samples import (
    TARGETS, addresses, beside, chances, just_prefixes, same, some_prefixes, some_table_rows, some_wish_rows,
)

TWELVE = TARGETS + ('bb', 'cc')


class ExampleTest(unittest.TestCase):
    def test_example_of_the_document(self):
        self.assertEqual(len(fewest_equal(Table.of(2, ('00', 'a'), ('01', 'a'), ('1', 'a')))), 1)
        self.assertEqual(fewest_rows(Wish(2, {'0': ['a'], '1': [None, 'b']})).rows, {'0': 'a'})


def asked_for(width, many, chance, targets):
    """Return rows of a wish that allow at least something, None among them."""
    choices = [None] + list(targets)
    return {prefix: chance.sample(choices, chance.randint(1, min(3, len(choices))))
            for prefix in some_prefixes(chance, width, many)}


class FewestRowsTest(unittest.TestCase):
    def check(self, width, rows):
        """Check what is returned or raised, and return the number of rows or None."""
        wish = Wish(width, rows)
        before = wish.rows
        leaves = leaves_of(nodes_of(width, {}, rows))
        wrong = [leaf for leaf in leaves if list(allowed_at(rows, leaf.ljust(width, '0'))) == []]
        task = Task(Table(width, {}), wish, Prices())
        with self.subTest(width=width, rows=rows):
            self.assertEqual(first_obstacle(task), wrong[0] if wrong else None)
            if wrong:
                self.check_refused(wish, wrong[0])
                return None
            table = fewest_rows(wish)
            self.assertIs(type(table), Table)
            self.assertEqual(table.width, width)
            self.assertIs(wish.is_fulfilled(table), True)
            some = addresses(width) if width < 6 else beside(width, list(rows) + list(table.rows))
            self.assertEqual(failures(rows, table.rows, some), [])
            self.assertTrue(check_certificate(task, certificate(task), len(table)))
            self.assertTrue(same([wish.width, wish.rows], [width, before]))
            return len(table)

    def check_refused(self, wish, leaf):
        with self.assertRaises(NoSolution) as caught:
            fewest_rows(wish)
        self.assertIs(caught.exception.__class__, NoSolution)
        self.assertEqual(caught.exception.leaf, leaf)

    def test_no_row_and_one_row(self):
        for width in range(1, 33):
            self.assertEqual(self.check(width, {}), 0)
            for prefix in ('', '0', '1' * width, ('01' * 16)[:width]):
                self.assertEqual(self.check(width, {prefix: ['a']}), 1)
                self.assertEqual(self.check(width, {prefix: [None]}), 0)
                self.assertEqual(self.check(width, {prefix: ['b', None, 'a']}), 0)
                self.assertEqual(self.check(width, {prefix: ['b', 'a']}), 1)
                self.assertIsNone(self.check(width, {prefix: []}))

    def test_rows_that_share_a_target(self):
        self.assertEqual(fewest_rows(Wish(2, {'0': ['a', 'b'], '1': ['b', 'c']})).rows, {'': 'b'})
        self.assertEqual(self.check(2, {'00': ['a', 'b'], '01': ['b', 'c'], '1': ['c', 'a']}), 2)
        self.assertEqual(self.check(3, {'00': ['a'], '01': ['b'], '10': ['a'], '11': ['b']}), 3)
        self.assertEqual(self.check(32, {'0' * 32: ['a'], '1' * 32: ['a']}), 1)
        self.assertEqual(self.check(32, {'0' * 32: ['a'], '0' * 31 + '1': [None], '1' * 32: ['a']}), 2)
        # None asks for rows around it, since no row leads to it below another one.
        self.assertEqual(self.check(2, {'': ['a'], '01': [None]}), 2)

    def test_all_tables_of_small_widths(self):
        for width, many in ((1, 200), (2, 100)):
            tables = [(len(rows), [target_at(rows, address) for address in addresses(width)])
                      for rows in all_tables(width, 'ab')]
            for chance in chances(many):
                rows = some_wish_rows(chance, width, chance.randint(0, 5), 'ab')
                if chance.random() < 0.5:
                    rows = asked_for(width, chance.randint(0, 5), chance, 'ab')
                allowed = [allowed_at(rows, address) for address in addresses(width)]
                possible = [count for count, meaning in tables
                            if all(some == 'any' or target in some for some, target in zip(allowed, meaning))]
                self.assertEqual(self.check(width, rows), min(possible, default=None))

    def test_many_wishes_of_all_widths(self):
        refused = 0
        for width in range(1, 33):
            for chance in chances(8):
                rows = some_wish_rows(chance, width, chance.choice((2, 4, 7)), TWELVE[:chance.choice((1, 2, 5, 12))])
                refused += self.check(width, rows) is None
                self.check(width, asked_for(width, 6, chance, TWELVE[:chance.choice((1, 2, 5, 12))]))
        self.assertTrue(30 < refused < 230)

    def test_forty_rows_and_more(self):
        for chance in chances(4):
            for width in (6, 16, 32):
                for many in (40, 70):
                    targets = [None] + list(TWELVE[:chance.choice((2, 12))])
                    some = just_prefixes(chance, width, many)
                    rows = {prefix: chance.sample(targets, chance.randint(1, 3)) for prefix in some}
                    self.assertGreater(self.check(width, rows), 0)
                    self.assertIsNone(self.check(width, {**rows, chance.choice(list(rows)): [], '1' * width: []}))

    def test_a_thousand_rows(self):
        some = [address + '0' * 22 for address in addresses(10)[:1000]]
        wish = {prefix: [target, 'all'] for prefix, target in zip(some, TWELVE * 84)}
        self.assertEqual(fewest_rows(Wish(32, wish)).rows, {'': 'all'})
        self.assertGreater(self.check(32, {prefix: [target] for prefix, target in zip(some, TWELVE * 84)}), 11)

    def test_more_allowed_asks_for_no_more_rows(self):
        for chance in chances(40):
            for width in (1, 2, 3, 32):
                rows = asked_for(width, 6, chance, 'abc')
                least = self.check(width, rows)
                for prefix, allowed in rows.items():
                    more = [name for name in (None, 'a', 'b', 'c', 'z') if name not in allowed]
                    wider = {**rows, prefix: allowed + chance.sample(more, chance.randint(1, len(more)))}
                    self.assertLessEqual(self.check(width, wider), least)

    def test_the_smallest_leaf_that_is_allowed_nothing(self):
        for rows, leaf in (
            ({'': []}, ''), ({'1': []}, '1'), ({'': [], '0': ['a']}, '1'), ({'11': [], '10': []}, '10'),
            ({'1': [], '01': []}, '01'), ({'': [], '00': ['a'], '1': [None]}, '01'), ({'0': [], '00': []}, '00'),
        ):
            self.check_refused(Wish(2, rows), leaf)
            self.assertIsNone(self.check(2, rows))

    def test_arguments_by_name(self):
        self.assertEqual(fewest_rows(wish=Wish(1, {'': ['a']})), Table.of(1, ('', 'a')))
        self.assertEqual(fewest_equal(table=Table.of(1, ('1', 'a'), ('0', 'a'))), Table.of(1, ('', 'a')))


class FewestEqualTest(unittest.TestCase):
    def check(self, width, rows):
        table = Table(width, rows)
        before = table.rows
        found = fewest_equal(table)
        with self.subTest(width=width, rows=rows):
            self.assertIs(type(found), Table)
            self.assertEqual(found.width, width)
            self.assertIs(same_meaning(found, table), True)
            some = addresses(width) if width < 6 else beside(width, list(rows) + list(found.rows))
            self.assertEqual([target_at(found.rows, address) for address in some],
                             [target_at(rows, address) for address in some])
            self.assertEqual(len(found), len(fewest_rows(Wish.exact(table))))
            self.assertLessEqual(len(found), len(table))
            self.assertEqual(len(fewest_equal(found)), len(found))
            self.assertTrue(same([table.width, table.rows], [width, before]))
        return len(found)

    def test_no_row_and_one_row(self):
        for width in range(1, 33):
            self.assertEqual(self.check(width, {}), 0)
            for prefix in ('', '0', '1' * width, ('01' * 16)[:width]):
                self.assertEqual(self.check(width, {prefix: 'a'}), 1)

    def test_rows_that_are_not_needed(self):
        for rows, least in (
            ({'': 'a', '0': 'a', '01': 'a'}, 1), ({'0': 'a', '1': 'b', '': 'c'}, 2), ({'00': 'a', '01': 'a'}, 1),
            ({'00': 'a', '01': 'b', '10': 'a', '11': 'a'}, 2), ({'1': 'b', '10': 'a', '11': 'a'}, 1),
            ({'': 'a', '11': 'b', '10': 'b', '0': 'b'}, 1), ({'00': 'a', '01': 'a', '10': 'b', '11': 'b'}, 2),
        ):
            for width in (2, 3, 32):
                self.assertEqual(self.check(width, rows), least)

    def test_all_tables_of_small_widths(self):
        for width in (1, 2):
            least = {}
            tables = all_tables(width, 'ab')
            meanings = [tuple(target_at(rows, address) for address in addresses(width)) for rows in tables]
            for rows, meaning in zip(tables, meanings):
                least[meaning] = min(least.get(meaning, 99), len(rows))
            for rows, meaning in zip(tables, meanings):
                self.assertEqual(self.check(width, rows), least[meaning])

    def test_many_tables_of_all_widths(self):
        for width in range(1, 33):
            for chance in chances(6):
                for many in (2, 5, 9):
                    self.check(width, some_table_rows(chance, width, many, TWELVE[:chance.choice((1, 2, 12))]))

    def test_forty_rows_and_more(self):
        for chance in chances(6):
            for width in (6, 16, 32):
                for many in (40, 100):
                    # The rows stand in no order at all.
                    self.check(width, {prefix: chance.choice('abc') for prefix in just_prefixes(chance, width, many)})

    def test_every_address_of_a_width(self):
        self.assertEqual(self.check(5, {address: 'a' for address in addresses(5)}), 1)
        self.assertEqual(self.check(5, {address: 'ab'[int(address[-1])] for address in addresses(5)}), 17)
