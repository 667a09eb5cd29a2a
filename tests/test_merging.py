"""Points 2 and 22: merges of tables that were changed on two sides."""

import itertools
import unittest

from keptroutes.cheapest import cheapest
from keptroutes.errors import InvalidPair, NoSolution
from keptroutes.merging import conflicts, merge_task, merge_wish
from keptroutes.obstacles import first_obstacle
from keptroutes.stretches import same_meaning
from keptroutes.tables import Table
from keptroutes.tasks import Prices, Task, is_solution
from keptroutes.wishes import Wish
from tests.made import prices_of
from tests.reference import all_tables, common_leaves_of, merged_at
from tests.samples import (
    TARGETS, addresses, beside, chances, just_prefixes, near_rows, raises, same, some_prefixes, some_table_rows,
)


class ExampleTest(unittest.TestCase):
    def test_example_of_the_document(self):
        base = Table.of(2, ('', 'a'))
        one, two = Table.of(2, ('', 'a'), ('1', 'b')), Table.of(2, ('', 'c'))
        self.assertEqual([merge_wish(base, one, two).rows, conflicts(base, one, two)], [
            {'0': ('c',), '1': ('b', 'c')}, ['1']])


def sides(chance, width, many, targets):
    """Return triples of rows: equal ones, and changed on one side, on both in the same way, and in different ways."""
    base = some_table_rows(chance, width, many, targets)
    one = near_rows(chance, width, base, targets)
    two = near_rows(chance, width, base, targets)
    other = some_table_rows(chance, width, many, targets)
    return [
        (base, base, base), (base, one, base), (base, base, two), (base, one, one), (base, one, two),
        (base, other, two), (other, one, two), ({}, one, two), (base, {}, two), (base, one, {}), ({}, {}, two),
        ({}, one, {}), (base, {}, {}), ({}, {}, {}),
    ]


class MergeTest(unittest.TestCase):
    def check(self, width, base, one, two):
        """Check the merged wish and the conflicts of tables with these rows, and return the conflicts."""
        tables = [Table(width, base), Table(width, one), Table(width, two)]
        before = [table.rows for table in tables]
        wish = merge_wish(*tables)
        leaves = common_leaves_of(base, one, two)
        merged = {leaf: merged_at(base, one, two, leaf.ljust(width, '0')) for leaf in leaves}
        found = conflicts(*tables)
        with self.subTest(width=width, base=base, one=one, two=two):
            self.assertIs(type(wish), Wish)
            self.assertEqual(wish.width, width)
            self.assertEqual(list(wish.rows.items()), list(merged.items()))
            some = addresses(width) if width < 5 else beside(width, list(base) + list(one) + list(two))
            for address in some:
                self.assertEqual(wish.allowed(address), merged_at(base, one, two, address))
            self.assertIs(type(found), list)
            self.assertEqual(found, [leaf for leaf in leaves if len(merged[leaf]) == 2])
            self.assertEqual(conflicts(tables[0], tables[2], tables[1]), found)
            self.assertEqual(merge_wish(tables[0], tables[2], tables[1]), wish)
            self.check_task(tables, wish)
            self.assertTrue(same([table.rows for table in tables], before))
        return found

    def check_task(self, tables, wish):
        prices = Prices(adding=3, changing=5, removing=7)
        task = merge_task(*tables, prices)
        self.assertIs(type(task), Task)
        self.assertEqual([task.table, task.wish], [tables[1], wish])
        shown = [task.prices.adding, task.prices.changing, task.prices.removing, task.prices.single]
        self.assertEqual(shown, [3, 5, 7, {}])
        price, table = cheapest(task)
        self.assertIs(wish.is_fulfilled(table), True)
        self.assertIs(is_solution(task, table), True)
        if tables[2] == tables[0] or tables[1] == tables[2]:
            self.assertEqual([price, table], [0, tables[1]])

    def test_no_rows(self):
        for width in range(1, 33):
            self.assertEqual(merge_wish(*[Table(width, {})] * 3), Wish(width, {'': [None]}))
            self.check(width, {}, {}, {})

    def test_the_kinds_of_targets(self):
        for t, u, v in itertools.product((None, 'a', 'b', 'c'), repeat=3):
            base, one, two = [Table(2, {} if target is None else {'': target}) for target in (t, u, v)]
            merged = merge_wish(base, one, two).rows['']
            if u == v:
                self.assertEqual(merged, (u,))
            elif v == t:
                self.assertEqual(merged, (u,))
            elif u == t:
                self.assertEqual(merged, (v,))
            else:
                self.assertEqual(sorted(merged, key=str), sorted((u, v), key=str))
            self.assertEqual(conflicts(base, one, two), [''] if len(merged) == 2 else [])
            self.check(2, base.rows, one.rows, two.rows)

    def test_leaves(self):
        base, one, two = Table.of(3, ('0', 'a')), Table.of(3, ('010', 'b')), Table.of(3, ('1', 'c'))
        self.assertEqual(merge_wish(base, one, two).rows, {
            '00': (None,), '010': (None, 'b'), '011': (None,), '1': ('c',)})
        self.assertEqual(conflicts(base, one, two), ['010'])
        # Rows that are no addresses have no longer nodes below them.
        self.assertEqual(list(merge_wish(base, base, base).rows), ['0', '1'])
        self.assertEqual(list(merge_wish(two, two, base).rows), ['0', '1'])

    def test_all_tables_of_width_1(self):
        tables = all_tables(1, 'ab')
        met = [self.check(1, *three) for three in itertools.product(tables[::2], tables, tables[::3])]
        self.assertGreater(len([found for found in met if found]), 100)

    def test_widths_2_and_3(self):
        met = []
        for chance in chances(40):
            for width in (2, 3):
                met += [self.check(width, *three) for three in sides(chance, width, 4, 'abc')]
        self.assertGreater(len([found for found in met if found]), 300)

    def test_all_widths(self):
        for width in range(1, 33):
            for chance in chances(2):
                for three in sides(chance, width, chance.choice((3, 6)), 'abcd'):
                    self.check(width, *three)

    def test_forty_rows_and_more(self):
        for chance in chances(1):
            for width in (6, 32):
                base, other = [{prefix: chance.choice(TARGETS) for prefix in just_prefixes(chance, width, 42)}
                               for _ in range(2)]
                one, two = [near_rows(chance, width, base, TARGETS, 8) for _ in range(2)]
                self.check(width, base, one, two)
                self.check(width, base, other, two)

    def test_a_hundred_rows_each(self):
        for chance in chances(2):
            rows = [{prefix: chance.choice('abc') for prefix in just_prefixes(chance, 32, 100)} for _ in range(3)]
            base, one, two = [Table(32, some) for some in rows]
            wish = merge_wish(base, one, two)
            self.assertEqual(sorted(set(wish.rows)), list(wish.rows))
            self.assertIs(wish.is_fulfilled(cheapest(merge_task(base, one, two, Prices()))[1]), True)
            self.assertEqual(conflicts(base, one, two), [leaf for leaf, some in wish.walk() if len(some) == 2])

    def test_one_side_is_the_base(self):
        for chance in chances(30):
            for width in (1, 2, 3, 32):
                base = Table(width, some_table_rows(chance, width, 4, 'ab'))
                side = Table(width, near_rows(chance, width, base.rows, 'ab'))
                for wish in (merge_wish(base, base, side), merge_wish(base, side, base)):
                    self.assertIs(wish.is_fulfilled(side), True)
                    for rows in (base.rows, near_rows(chance, width, side.rows, 'ab'), {}):
                        other = Table(width, rows)
                        self.assertIs(wish.is_fulfilled(other), same_meaning(other, side))

    def test_the_results_are_new(self):
        base, one, two = Table.of(2, ('', 'a')), Table.of(2, ('1', 'b')), Table.of(2, ('', 'c'))
        self.assertEqual(conflicts(base, one, two), ['0', '1'])
        conflicts(base, one, two).clear()
        merge_wish(base, one, two).rows.clear()
        self.assertIsNot(conflicts(base, one, two), conflicts(base, one, two))
        self.assertEqual(conflicts(base, one, two), ['0', '1'])
        self.assertEqual(merge_wish(base, one, two).rows, {'0': (None, 'c'), '1': ('b', 'c')})

    def test_arguments_by_name(self):
        base, one, two = Table.of(2, ('', 'a')), Table.of(2, ('', 'a'), ('1', 'b')), Table.of(2, ('', 'c'))
        self.assertEqual(merge_wish(two=two, one=one, base=base).rows, {'0': ('c',), '1': ('b', 'c')})
        self.assertEqual(conflicts(two=two, base=base, one=one), ['1'])
        task = merge_task(prices=Prices(adding=4), two=two, one=one, base=base)
        self.assertEqual([task.table, task.wish.rows, task.prices.adding], [one, {'0': ('c',), '1': ('b', 'c')}, 4])


class TaskTest(unittest.TestCase):
    def test_own_prices_and_locks(self):
        base, one, two = Table.of(2, ('', 'a')), Table.of(2, ('', 'a'), ('1', 'b')), Table.of(2, ('', 'c'))
        single = {'': 6, '1': None, '01': 2}
        task = merge_task(base, one, two, prices_of((9, 8, 7), single))
        self.assertEqual([task.prices.adding, task.prices.changing, task.prices.removing], [9, 8, 7])
        self.assertEqual(task.prices.single, single)
        self.assertEqual(cheapest(task), (6, Table.of(2, ('', 'c'), ('1', 'b'))))
        task = merge_task(base, one, two, prices_of((9, 8, 7), {'': None}))
        self.assertEqual(cheapest(task), (9, Table.of(2, ('', 'a'), ('0', 'c'), ('1', 'b'))))

    def test_cheapest_solutions_fulfil_the_merged_wish(self):
        refused = 0
        for chance in chances(60):
            for width in (1, 2, 3, 17, 32):
                for base, one, two in sides(chance, width, 4, 'abc')[4:8]:
                    tables = [Table(width, rows) for rows in (base, one, two)]
                    single = {prefix: chance.choice((None, 1, 9)) for prefix in list(one)[:2]}
                    single.update({prefix: None for prefix in some_prefixes(chance, width, 2)})
                    task = merge_task(*tables, prices_of((3, 2, 1), single))
                    try:
                        _, table = cheapest(task)
                    except NoSolution as error:
                        self.assertEqual(error.leaf, first_obstacle(task))
                        refused += 1
                    else:
                        self.assertIs(merge_wish(*tables).is_fulfilled(table), True)
                        self.assertIs(is_solution(task, table), True)
        self.assertTrue(30 < refused < 900, refused)


class WidthsTest(unittest.TestCase):
    def test_one_or_two_other_widths(self):
        for some in itertools.product((1, 2, 3, 32), repeat=3):
            if len(set(some)) > 1:
                for rows in itertools.product(({}, {'1': 'a'}), repeat=3):
                    tables = [Table(width, each) for width, each in zip(some, rows)]
                    raises(self, InvalidPair, lambda: merge_wish(*tables))
                    raises(self, InvalidPair, lambda: conflicts(*tables))
                    raises(self, InvalidPair, lambda: merge_task(*tables, Prices()))
                    self.assertEqual([table.rows for table in tables], list(rows))
