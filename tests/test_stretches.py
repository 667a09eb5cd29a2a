"""Points 2 and 12: stretches of tables and differences between them."""

import unittest

from keptroutes.errors import InvalidPair
from keptroutes.stretches import first_difference, same_meaning, stretches
from keptroutes.tables import Table
from tests.reference import target_at
from tests.samples import TARGETS, addresses, beside, chances, raises, some_table_rows


class ExampleTest(unittest.TestCase):
    def test_example_of_the_document(self):
        table = Table.of(3, ('0', 'a'), ('011', 'b'), ('1', 'b'))
        self.assertEqual(stretches(table), [('000', '010', 'a'), ('011', '111', 'b')])
        self.assertEqual(first_difference(Table.of(2, ('', 'a')), Table.of(2, ('0', 'a'))), '10')


class StretchesTest(unittest.TestCase):
    def check(self, width, rows):
        table = Table(width, rows)
        found = stretches(table)
        with self.subTest(width=width, rows=rows):
            self.assertIs(type(found), list)
            self.assertTrue(all(type(run) is tuple and len(run) == 3 for run in found))
            self.assertEqual([found[0][0], found[-1][1]], ['0' * width, '1' * width])
            for (first, last, _), (following, _, _) in zip(found, found[1:]):
                self.assertEqual(int(last, 2) + 1, int(following, 2))
            for first, last, _ in found:
                self.assertEqual([len(first), len(last)], [width, width])
                self.assertLessEqual(first, last)
            self.assertTrue(all(one[2] != two[2] for one, two in zip(found, found[1:])))
            self.check_targets(rows, found, addresses(width) if width < 6 else beside(width, rows))
            self.assertEqual(table.rows, rows)

    def check_targets(self, rows, found, some):
        for address in some:
            meant = [target for first, last, target in found if first <= address <= last]
            self.assertEqual(meant, [target_at(rows, address)])

    def test_no_row(self):
        for width in range(1, 33):
            self.assertEqual(stretches(Table(width, {})), [('0' * width, '1' * width, None)])
            self.check(width, {})

    def test_one_row(self):
        self.assertEqual(stretches(Table.of(2, ('', 'a'))), [('00', '11', 'a')])
        self.assertEqual(stretches(Table.of(2, ('0', 'a'))), [('00', '01', 'a'), ('10', '11', None)])
        self.assertEqual(stretches(Table.of(2, ('1', 'a'))), [('00', '01', None), ('10', '11', 'a')])
        found = stretches(Table.of(2, ('01', 'a')))
        self.assertEqual(found, [('00', '00', None), ('01', '01', 'a'), ('10', '11', None)])
        for width in range(1, 33):
            for prefix in ('', '0' * width, '1' * width, '1', ('01' * 16)[:width]):
                self.check(width, {prefix: 'a'})

    def test_rows_with_the_same_target_are_one_run(self):
        for rows in ({'': 'a'}, {'0': 'a', '1': 'a'}, {'': 'a', '01': 'a', '1': 'a'}, {'00': 'a', '01': 'a', '1': 'a'}):
            self.assertEqual(stretches(Table(2, rows)), [('00', '11', 'a')])
        self.assertEqual(stretches(Table.of(2, ('01', 'a'), ('10', 'a'))), [
            ('00', '00', None), ('01', '10', 'a'), ('11', '11', None)])

    def test_several_rows_of_all_widths(self):
        for width in range(1, 33):
            for chance in chances(12):
                self.check(width, some_table_rows(chance, width, chance.choice((2, 3, 5, 9)), 'ab'))
                self.check(width, some_table_rows(chance, width, 6, TARGETS))

    def test_forty_rows_and_more(self):
        for chance in chances(6):
            for width in (6, 16, 31, 32):
                for many in (40, 100):
                    self.check(width, some_table_rows(chance, width, many, TARGETS[:chance.choice((2, 10))]))

    def test_every_second_address(self):
        table = Table(5, {address: 'ab'[number % 2] for number, address in enumerate(addresses(5))})
        self.assertEqual(stretches(table), [(address, address, target) for address, target in table.rows.items()])

    def test_the_list_is_new(self):
        table = Table.of(2, ('1', 'a'))
        stretches(table).clear()
        self.assertIsNot(stretches(table), stretches(table))
        self.assertEqual(stretches(table), [('00', '01', None), ('10', '11', 'a')])
        self.assertEqual(stretches(table=table), stretches(table))


class DifferenceTest(unittest.TestCase):
    def check(self, width, one, two):
        some = addresses(width) if width < 6 else beside(width, list(one) + list(two))
        differing = [address for address in some if target_at(one, address) != target_at(two, address)]
        with self.subTest(width=width, one=one, two=two):
            for left, right in ((one, two), (two, one)):
                found = first_difference(Table(width, left), Table(width, right))
                self.assertEqual(found, differing[0] if differing else None)
                self.assertIs(same_meaning(Table(width, left), Table(width, right)), differing == [])

    def test_the_same_meaning_by_other_rows(self):
        for one, two in (
            ({'': 'a'}, {'0': 'a', '1': 'a'}),
            ({'': 'a', '11': 'b'}, {'': 'a', '1': 'a', '11': 'b'}),
            ({'0': 'a'}, {'00': 'a', '01': 'a'}),
            ({'': 'a', '0': 'b'}, {'0': 'b', '1': 'a', '': 'c'}),
            ({}, {}),
        ):
            for width in (2, 3, 32):
                self.assertIs(same_meaning(Table(width, one), Table(width, two)), True)
                self.check(width, one, two)

    def test_a_table_and_itself(self):
        for chance in chances(10):
            for width in (1, 5, 32):
                table = Table(width, some_table_rows(chance, width, 8, TARGETS))
                self.assertIsNone(first_difference(table, table))
                self.assertIs(same_meaning(table, table), True)

    def test_one_other_row(self):
        for chance in chances(30):
            for width in (1, 2, 5, 31, 32):
                rows = some_table_rows(chance, width, 8, 'abc')
                for prefix in rows:
                    self.check(width, rows, {**rows, prefix: 'd'})
                    self.check(width, rows, {kept: rows[kept] for kept in rows if kept != prefix})

    def test_other_tables(self):
        for chance in chances(30):
            for width in range(1, 33):
                one = some_table_rows(chance, width, chance.choice((0, 2, 5)), 'ab')
                self.check(width, one, some_table_rows(chance, width, chance.choice((0, 2, 5)), 'ab'))

    def test_other_widths(self):
        for one in (1, 2, 3, 31, 32):
            for two in (1, 2, 3, 31, 32):
                for rows in ({}, {'1': 'a'}):
                    left, right = Table(one, rows), Table(two, {})
                    if one != two:
                        for asked in (first_difference, same_meaning):
                            raises(self, InvalidPair, lambda: asked(left, right))
                            raises(self, InvalidPair, lambda: asked(right, left))
                    self.assertEqual([left.width, left.rows, right.rows], [one, rows, {}])

    def test_arguments_by_name(self):
        one, two = Table.of(2, ('', 'a')), Table.of(2, ('0', 'a'))
        self.assertEqual(first_difference(two=two, one=one), '10')
        self.assertIs(same_meaning(two=two, one=one), False)
        self.assertIs(same_meaning(one=one, two=one), True)
