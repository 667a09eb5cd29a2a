"""Points 2, 3, 4 and 10: wishes in use."""

import itertools
import unittest

from keptroutes.maps import PrefixMap
from keptroutes.tables import Table
from keptroutes.wishes import Wish
from tests.reference import allowed_at, ascending, failures, target_at
from tests.samples import (
    TARGETS, WIDTHS, addresses, beside, chances, prefixes, some_table_rows, some_wish_rows,
)


class ExampleTest(unittest.TestCase):
    def test_example_of_the_document(self):
        wish = Wish(2, {'0': ['b', 'a'], '01': [None]})
        found = [wish.rows, wish.allowed('00'), wish.allowed('11')]
        self.assertEqual(found, [{'0': ('a', 'b'), '01': (None,)}, ('a', 'b'), 'any'])
        self.assertEqual(wish.first_failure(Table.of(2, ('', 'a'))), '01')


class MakingTest(unittest.TestCase):
    def made_row_by_row(self, width, pairs):
        wish = Wish(width, {})
        for prefix, allowed in pairs:
            wish = wish.with_row(prefix, allowed)
            self.assertIs(type(wish), Wish)
        return wish

    def test_equal_however_they_are_made(self):
        pairs = [('10', ['b', None, 'a']), ('', ()), ('1', ('abcdefgh',)), ('00', [None])]
        for many in range(len(pairs) + 1):
            for some in itertools.permutations(pairs, many):
                other = [(prefix, tuple(reversed(allowed))) for prefix, allowed in some]
                lists = [(prefix, list(allowed)) for prefix, allowed in some]
                made = [Wish(5, dict(some)), Wish(5, dict(other)), Wish(5, dict(lists))]
                made += [self.made_row_by_row(5, some), self.made_row_by_row(5, other)]
                for one, two in itertools.product(made, made):
                    self.assertTrue(one == two)
                    self.assertFalse(one != two)
                expected = sorted((prefix, ascending(allowed)) for prefix, allowed in some)
                for wish in made:
                    self.assertEqual(list(wish.walk()), expected)
                    self.assertEqual(list(wish.rows.items()), expected)
                    self.assertEqual([wish.width, len(wish)], [5, many])

    def test_values_are_ascending_tuples(self):
        for many in range(5):
            for some in itertools.permutations([None, 'b', 'a', 'ab', 'z'], many):
                for value in (some, list(some)):
                    for wish in (Wish(1, {'0': value}), Wish(1, {}).with_row('0', value)):
                        kept = wish.rows['0']
                        self.assertIs(type(kept), tuple)
                        self.assertEqual(kept, ascending(some))

    def test_sets_of_many_targets(self):
        named = [one + two for one in 'zyxwa' for two in 'abcdefghijklmnopqrstuvwxyz'] + [None]
        self.assertEqual(Wish(1, {'': named}).allowed('0'), tuple([None] + sorted(named[:-1])))

    def test_arguments_are_copied(self):
        allowed, more = ['b', None], ['c']
        rows = {'1': allowed, '0': more}
        wish = Wish(2, rows)
        self.assertEqual(rows, {'1': ['b', None], '0': ['c']})
        self.assertEqual(list(rows), ['1', '0'])
        other = wish.with_row('', more)
        allowed.append('a')
        more.clear()
        rows['11'] = ['d']
        del rows['0']
        wish.rows['1'] = ('e',)
        wish.rows.clear()
        self.assertIsNot(wish.rows, wish.rows)
        self.assertEqual(list(wish.walk()), [('0', ('c',)), ('1', (None, 'b'))])
        self.assertEqual(list(other.walk()), [('', ('c',)), ('0', ('c',)), ('1', (None, 'b'))])

    def test_it_is_a_map(self):
        self.assertEqual(Wish.__bases__, (PrefixMap,))
        wish = Wish(3, {'1': ['a'], '': []})
        self.assertEqual([wish.longest('10'), wish.longest('0'), wish.without('').longest('0')], ['1', '', None])
        self.assertIs(type(wish.without('')), Wish)
        self.assertIs(type(wish.with_row('1', [])), Wish)
        self.assertEqual(wish.without('').rows, {'1': ('a',)})
        self.assertEqual(wish.with_row('1', ['b']).with_row('1', ['a']), wish)
        self.assertEqual(wish.rows, {'': (), '1': ('a',)})

    def test_every_width_from_1_to_32(self):
        for width in range(1, 33):
            self.assertEqual(Wish(width, {'1' * width: [None]}).rows, {'1' * width: (None,)})
            self.assertEqual([Wish(width, {}).rows, Wish(width, {}).width], [{}, width])

    def test_a_thousand_rows(self):
        rows = {address + bits: ['b', 'a'] for address in addresses(9) for bits in ('', '0' * 23)}
        self.assertEqual(list(Wish(32, rows).walk()), [(prefix, ('a', 'b')) for prefix in sorted(rows)])

    def test_arguments_by_name(self):
        wish = Wish(rows={'1': ['a']}, width=2)
        self.assertEqual(wish, Wish(2, rows={'1': ('a',)}))
        self.assertEqual(Wish.exact(table=Table.of(2, ('1', 'a'))), Wish(2, {'': [None], '1': ['a']}))
        self.assertEqual(wish.allowed(address='10'), ('a',))
        self.assertEqual(wish.first_failure(table=Table(2, {})), '10')
        self.assertIs(wish.is_fulfilled(table=Table(2, {})), False)
        self.assertEqual(wish.longest(prefix='10'), '1')
        self.assertEqual(wish.with_row(value=[], prefix='0').rows, {'0': (), '1': ('a',)})
        self.assertEqual(wish.without(prefix='1'), Wish(2, {}))


class AllowedTest(unittest.TestCase):
    def check(self, width, rows, some):
        wish = Wish(width, rows)
        for address in some:
            allowed = allowed_at(rows, address)
            with self.subTest(rows=rows, address=address):
                self.assertEqual(wish.allowed(address), 'any' if allowed == 'any' else ascending(allowed))

    def test_all_addresses_of_small_widths(self):
        values = [['b', 'a'], [], [None], ('c', None), ('any',), ['a'], [None, 'z', 'a']]
        for width in (1, 2):
            every = prefixes(width)
            for many in range(len(every) + 1):
                for chosen in itertools.combinations(every, many):
                    self.check(width, dict(zip(chosen, values)), addresses(width))
        for chance in chances(40):
            for width in (3, 5):
                self.check(width, some_wish_rows(chance, width, 12, TARGETS), addresses(width))

    def test_addresses_beside_each_prefix_of_large_widths(self):
        for chance in chances(20):
            for width in (17, 31, 32):
                rows = some_wish_rows(chance, width, 30, TARGETS)
                self.check(width, rows, beside(width, rows))
        path = '1001' * 8
        for step in (1, 2, 5):
            rows = {path[:length]: [TARGETS[length % 10], None] for length in range(1, 33, step)}
            self.check(32, rows, beside(32, rows))

    def test_no_row(self):
        for width in WIDTHS:
            self.assertEqual(Wish(width, {}).allowed('1' * width), 'any')

    def test_the_target_any_is_no_string(self):
        wish = Wish(1, {'0': ['any']})
        self.assertEqual([wish.allowed('0'), wish.allowed('1')], [('any',), 'any'])
        self.assertEqual(wish.first_failure(Table.of(1, ('', 'a'))), '0')
        self.assertIsNone(wish.first_failure(Table.of(1, ('', 'any'))))

    def test_an_empty_set_is_not_any(self):
        wish = Wish(1, {'': ['a'], '0': []})
        self.assertEqual([wish.allowed('0'), wish.allowed('1')], [(), ('a',)])


class ExactTest(unittest.TestCase):
    def test_rows(self):
        for pairs, expected in (
            ([], {'': (None,)}),
            ([('1', 'a')], {'': (None,), '1': ('a',)}),
            ([('', 'b'), ('01', 'a')], {'': ('b',), '01': ('a',)}),
            ([('11', 'a'), ('0', 'a')], {'': (None,), '0': ('a',), '11': ('a',)}),
        ):
            wish = Wish.exact(Table.of(2, *pairs))
            self.assertIs(type(wish), Wish)
            self.assertEqual(list(wish.rows.items()), sorted(expected.items()))
            self.assertEqual(wish, Wish(2, expected))

    def test_tables_with_the_same_meaning_and_no_other_ones(self):
        tables = [some_table_rows(chance, 3, 5, 'ab') for chance in chances(60)] + [{}]
        tables += [{'0': 'a', '1': 'a'}, {'': 'a'}, {'': 'b', '0': 'a', '1': 'a'}, {'00': 'a', '01': 'a', '1': 'a'}]
        meant = [[target_at(rows, address) for address in addresses(3)] for rows in tables]
        for one, meaning in zip(tables, meant):
            wish = Wish.exact(Table(3, one))
            for two, other in zip(tables, meant):
                self.assertIs(wish.is_fulfilled(Table(3, two)), meaning == other)

    def test_width_and_table_stay(self):
        for width in range(1, 33):
            table = Table(width, {'1': 'b', '1' * width: 'a'})
            before = table.rows
            wish = Wish.exact(table)
            self.assertEqual([wish.width, wish.is_fulfilled(table), table.rows], [width, True, before])
            self.assertEqual(wish.first_failure(Table(width, {})), '1'.ljust(width, '0'))

    def test_off_an_object(self):
        table = Table.of(1, ('1', 'a'))
        self.assertEqual(Wish(2, {}).exact(table), Wish.exact(table))


class FailureTest(unittest.TestCase):
    def check(self, width, rows, tables, some):
        wish = Wish(width, rows)
        # Each table is asked of twice and in turns, so that no earlier answer may count.
        for table in tables + tables[::-1]:
            failed = failures(rows, table, some)
            with self.subTest(width=width, rows=rows, table=table):
                self.assertEqual(wish.first_failure(Table(width, table)), failed[0] if failed else None)
                self.assertIs(wish.is_fulfilled(Table(width, table)), failed == [])

    def test_small_widths(self):
        for chance in chances(60):
            for width in (1, 2, 3, 5):
                rows = some_wish_rows(chance, width, chance.choice((0, 1, 3, 6)), 'abc')
                tables = [some_table_rows(chance, width, many, 'abc') for many in (0, 1, 3, 6)]
                self.check(width, rows, tables, addresses(width))

    def test_all_widths(self):
        for width in range(1, 33):
            for chance in chances(4):
                rows = some_wish_rows(chance, width, 12, 'ab')
                tables = [some_table_rows(chance, width, many, 'ab') for many in (0, 3, 12)]
                some = beside(width, list(rows) + [prefix for table in tables for prefix in table])
                self.check(width, rows, tables, some)

    def test_tables_that_fulfil(self):
        for chance in chances(30):
            table = some_table_rows(chance, 32, 20, 'abc')
            rows = {prefix: [target, None] for prefix, target in table.items()}
            self.assertIsNone(Wish(32, rows).first_failure(Table(32, table)))
            self.assertIs(Wish(32, rows).is_fulfilled(Table(32, table)), True)
            self.assertIsNone(Wish(32, {}).first_failure(Table(32, table)))

    def test_rows_nested_in_one_another(self):
        for path in ('0110' * 8, '0' * 32, '1' * 32, '1000' * 8):
            rows = {path[:length]: [TARGETS[length % 3]] for length in range(33)}
            table = {path[:length]: TARGETS[length % 3] for length in range(33)}
            some = beside(32, rows)
            changed = [{**table, path[:length]: 'q'} for length in (0, 1, 15, 31, 32)]
            less = [{kept: table[kept] for kept in table if kept != path[:length]} for length in (0, 7, 30, 32)]
            self.check(32, rows, [table, {}] + changed + less, some)

    def test_the_last_address_of_all(self):
        for width in range(1, 33):
            wish = Wish(width, {'1' * width: ['a']})
            self.assertEqual(wish.first_failure(Table(width, {})), '1' * width)
            self.assertIsNone(wish.first_failure(Table.of(width, ('1', 'a'))))

    def test_an_address_behind_a_row_of_the_table(self):
        # The failure begins where the row of the table ends, and where the row of the wish ends.
        self.assertEqual(Wish(3, {'': ['a']}).first_failure(Table.of(3, ('00', 'a'))), '010')
        self.assertEqual(Wish(3, {'': ['a'], '00': ['b']}).first_failure(Table.of(3, ('', 'b'))), '010')

    def test_a_thousand_rows(self):
        rows = {address + '0' * 22: ['a'] for address in addresses(10)[:1000]}
        table = {address: 'a' for address in addresses(7)[:100]}
        self.assertEqual(Wish(32, rows).first_failure(Table(32, table)), ('1100100' + '0' * 25))
        self.assertIsNone(Wish(32, rows).first_failure(Table(32, {**table, '11': 'a'})))
