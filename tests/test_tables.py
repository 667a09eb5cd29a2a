"""Points 2, 3, 4 and 9: tables in use."""

import itertools
import unittest

from keptroutes.maps import PrefixMap
from keptroutes.tables import Table
from tests.samples import (
    NO_TARGETS, TARGETS, WIDTHS, addresses, beside, kept_as_it_was, longest_by_search, prefixes,
)


class ExampleTest(unittest.TestCase):
    def test_example_of_the_document(self):
        table = Table.of(2, ('', 'a'), ('10', 'b'))
        found = [table.lookup('10'), table.lookup('11'), table.without('').lookup('11')]
        self.assertEqual(found, ['b', 'a', None])


class MakingTest(unittest.TestCase):
    def made_row_by_row(self, width, pairs):
        table = Table(width, {})
        for prefix, target in pairs:
            table = table.with_row(prefix, target)
        return table

    def test_three_ways_give_equal_tables(self):
        pairs = [('10', 'b'), ('', 'a'), ('1', 'abcdefgh'), ('00', 'a')]
        for width in (2, 5, 31, 32):
            for many in range(len(pairs) + 1):
                for some in itertools.permutations(pairs, many):
                    made = [Table(width, dict(some)), Table.of(width, *some), self.made_row_by_row(width, some)]
                    for one, two in itertools.product(made, made):
                        self.assertEqual(one, two)
                    for table in made:
                        self.assertEqual(list(table.walk()), sorted(some))
                        self.assertEqual(list(table.rows), sorted(dict(some)))
                        self.assertEqual([table.width, len(table)], [width, many])

    def test_of_without_pairs(self):
        for width in range(1, 33):
            self.assertEqual(Table.of(width), Table(width, {}))

    def test_it_is_a_map(self):
        self.assertEqual(Table.__bases__, (PrefixMap,))
        self.assertIs(type(Table.of(1)), Table)

    def test_of_off_an_object_and_a_subclass(self):
        class Special(Table):
            pass

        self.assertIs(type(Special.of(1, ('', 'a'))), Special)
        self.assertEqual(Table.of(2, ('1', 'b')).of(1, ('', 'a')), Table(1, {'': 'a'}))

    def test_arguments_by_name(self):
        table = Table(rows={'1': 'a'}, width=2)
        self.assertEqual(table, Table(2, rows={'1': 'a'}))
        self.assertEqual(Table.of(width=2), Table(2, {}))
        self.assertEqual(table.with_row(prefix='0', value='b'), Table.of(2, ('0', 'b'), ('1', 'a')))
        self.assertEqual(table.without(prefix='1'), Table(2, {}))
        self.assertEqual(table.lookup(address='10'), 'a')
        self.assertEqual(table.longest(prefix='10'), '1')
        self.assertIs(Table.is_target(thing='a'), True)

    def test_arguments_are_copied(self):
        rows = {'1': 'a', '0': 'b'}
        table = Table(2, rows)
        rows['1'] = 'c'
        rows['00'] = 'd'
        table.rows['1'] = 'e'
        table.rows.clear()
        self.assertEqual(list(table.walk()), [('0', 'b'), ('1', 'a')])

    def test_a_hundred_rows(self):
        pairs = [(address, 'a') for address in addresses(7)[:100]]
        self.assertEqual(Table.of(32, *pairs).rows, dict(pairs))


class TargetsTest(unittest.TestCase):
    def test_targets_repeat(self):
        table = Table.of(3, ('', 'c'), ('0', 'a'), ('00', 'c'), ('1', 'b'), ('11', 'a'), ('111', 'ab'))
        self.assertEqual(table.targets, ['a', 'ab', 'b', 'c'])
        self.assertEqual(Table(3, {}).targets, [])
        self.assertEqual(Table.of(3, ('1', 'z'), ('0', 'z')).targets, ['z'])

    def test_the_list_is_new(self):
        table = Table.of(3, ('', 'b'), ('0', 'a'))
        self.assertIsNot(table.targets, table.targets)
        table.targets.append('c')
        table.targets.clear()
        self.assertEqual(table.targets, ['a', 'b'])
        self.assertIs(type(table.targets), list)

    def test_all_targets_are_taken(self):
        table = Table(4, dict(zip(addresses(4), TARGETS)))
        self.assertEqual(table.targets, sorted(TARGETS))


class IsTargetTest(unittest.TestCase):
    def test_targets(self):
        for thing in TARGETS + tuple('abcdefghijklmnopqrstuvwxyz'):
            with self.subTest(thing):
                self.assertIs(Table.is_target(thing), True)
                self.assertIs(Table(1, {}).is_target(thing), True)

    def test_lengths(self):
        for length in range(12):
            self.assertIs(Table.is_target('q' * length), 1 <= length <= 8)

    def test_each_sign_at_each_place(self):
        for number in list(range(32, 127)) + [9, 10]:
            sign = chr(number)
            for thing in (sign, sign + 'b', 'b' + sign, 'b' + sign + 'b', 'abcdefg' + sign):
                with self.subTest(thing):
                    self.assertIs(Table.is_target(thing), 'a' <= sign <= 'z')

    def test_objects_of_all_kinds(self):
        for thing in NO_TARGETS:
            with self.subTest(repr(thing)[:60]):
                self.assertIs(kept_as_it_was(self, thing, lambda: Table.is_target(thing)), False)


class LookupTest(unittest.TestCase):
    def check(self, width, rows, some):
        table = Table(width, rows)
        for address in some:
            prefix = longest_by_search(rows, address)
            with self.subTest(rows=rows, address=address):
                self.assertEqual(table.lookup(address), None if prefix is None else rows[prefix])

    def test_all_tables_of_small_widths(self):
        for width in (1, 2):
            every = prefixes(width)
            for many in range(len(every) + 1):
                for chosen in itertools.combinations(every, many):
                    self.check(width, dict(zip(chosen, TARGETS)), addresses(width))

    def test_some_tables_of_width_5(self):
        every = prefixes(5)
        for step in (2, 3, 5, 7, 11, 17):
            for start in range(step):
                rows = {prefix: TARGETS[place % 10] for place, prefix in enumerate(every[start::step])}
                self.check(5, rows, addresses(5))

    def test_no_row(self):
        for width in WIDTHS:
            self.assertIsNone(Table(width, {}).lookup('1' * width))

    def test_rows_below_one_another_up_to_width_32(self):
        path = '1001' * 8
        for step in (1, 2, 5):
            rows = {path[:length]: TARGETS[length % 10] for length in range(0, 33, step)}
            beside = [path]
            for length in range(32):
                aside = path[:length] + ('1' if path[length] == '0' else '0')
                beside += [aside + bit * (31 - length) for bit in '01']
            self.check(32, rows, beside)

    def test_addresses_beside_each_prefix_of_width_32(self):
        rows = {'0101': 'a', '01011': 'b', '1' * 31: 'c', '1' * 32: 'd', '0' * 32: 'e', '0' * 16: 'f'}
        self.check(32, rows, beside(32, rows))

    def test_the_empty_prefix_leads_all_the_rest(self):
        table = Table.of(32, ('', 'a'), ('1' * 32, 'b'))
        for address, target in (('0' * 32, 'a'), ('1' * 32, 'b'), ('1' * 31 + '0', 'a'), ('0' + '1' * 31, 'a')):
            self.assertEqual(table.lookup(address), target)
