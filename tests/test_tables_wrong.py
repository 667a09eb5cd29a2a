"""Points 2, 3 and 9: wrong inputs for tables."""

from keptroutes.errors import InvalidAddress, InvalidMap, InvalidPrefix, UnknownRow
from keptroutes.tables import Table
from tests.samples import (
    INTEGERS, NO_STRINGS, NO_TARGETS, NO_TEXTS, NO_WIDTHS, WIDTHS, RefusingTest, raises, wrong_addresses,
    wrong_prefixes,
)

NO_PAIRS = NO_STRINGS + (
    '', '0', '0a', ('0',), ('0', 'a', 'b'), ('0', 'a', None), (), ['0', 'a'], [('0', 'a')], (('0', 'a'),), {'0': 'a'},
    {'0': 1, 'a': 2},
)


class ConstructorTest(RefusingTest):
    def test_widths(self):
        for width in NO_WIDTHS:
            self.refused(InvalidMap, lambda thing: Table(thing, {}), width)
            self.refused(InvalidMap, lambda thing: Table(thing, {'0': 'a'}), width)

    def test_rows_that_are_no_dict(self):
        for rows in NO_TEXTS + INTEGERS + ('', '0', 'a', [('0', 'a')], (('0', 'a'),)):
            if not isinstance(rows, dict):
                self.refused(InvalidMap, lambda thing: Table(2, thing), rows)

    def test_targets_at_any_place(self):
        for target in NO_TARGETS:
            for wrong in ('1', '01', '10'):
                rows = {'1': 'a', '01': 'b', '10': 'c'}
                rows[wrong] = target
                self.refused(InvalidMap, lambda thing: Table(3, thing), rows)

    def test_prefixes_at_any_place(self):
        for prefix in INTEGERS + ('0000', '2', 'a', ' ', '0\n', '0' * 33):
            for place in range(3):
                keys = ['1', '01']
                keys.insert(place, prefix)
                self.refused(InvalidMap, lambda thing: Table(3, thing), {key: 'a' for key in keys})


class OfTest(RefusingTest):
    def test_widths(self):
        for width in NO_WIDTHS:
            self.refused(InvalidMap, Table.of, width)
            self.refused(InvalidMap, lambda thing: Table.of(thing, ('0', 'a')), width)
            self.refused(InvalidMap, lambda thing: Table.of(thing, None), width)

    def test_pairs_that_are_no_tuple_of_two(self):
        for pair in NO_PAIRS:
            self.refused(InvalidMap, lambda thing: Table.of(3, thing), pair)
            for place in range(3):
                pairs = [('1', 'a'), ('01', 'b')]
                pairs.insert(place, pair)
                self.refused(InvalidMap, lambda thing: Table.of(3, *thing), pairs)

    def test_targets_at_any_place(self):
        for target in NO_TARGETS:
            for place in range(3):
                pairs = [('1', 'a'), ('01', 'b')]
                pairs.insert(place, ('10', target))
                self.refused(InvalidMap, lambda thing: Table.of(3, *thing), pairs)

    def test_prefixes_at_any_place(self):
        for prefix in wrong_prefixes(3):
            for place in range(3):
                pairs = [('1', 'a'), ('01', 'b')]
                pairs.insert(place, (prefix, 'c'))
                self.refused(InvalidMap, lambda thing: Table.of(3, *thing), pairs)

    def test_a_prefix_twice(self):
        for target in ('a', 'b'):
            for prefix in ('', '1', '101'):
                for between in ([], [('0', 'a')], [('0', 'a'), ('00', target)]):
                    pairs = [(prefix, 'a')] + between + [(prefix, target)]
                    self.refused(InvalidMap, lambda thing: Table.of(3, *thing), pairs)
        self.refused(InvalidMap, lambda thing: Table.of(3, *thing), [('0', 'a'), ('1', 'a'), ('1', 'a')])

    def test_prefixes_that_are_too_long_by_one(self):
        for width in WIDTHS:
            self.assertEqual(len(Table.of(width, ('1' * width, 'a'))), 1)
            self.refused(InvalidMap, lambda thing: Table.of(width, thing), ('1' * (width + 1), 'a'))


class MethodTest(RefusingTest):
    def setUp(self):
        self.table = Table.of(3, ('', 'a'), ('1', 'b'), ('10', 'a'))

    def tearDown(self):
        self.assertEqual(list(self.table.walk()), [('', 'a'), ('1', 'b'), ('10', 'a')])
        self.assertEqual([self.table.width, self.table.targets], [3, ['a', 'b']])

    def test_lookup_for_any_object(self):
        for address in wrong_addresses(3):
            self.refused(InvalidAddress, self.table.lookup, address)
            self.refused(InvalidAddress, Table(3, {}).lookup, address)

    def test_addresses_that_are_too_short_or_too_long(self):
        for width in WIDTHS:
            table = Table.of(width, ('', 'a'))
            for length in range(40):
                if length == width:
                    self.assertEqual(table.lookup('0' * length), 'a')
                else:
                    self.refused(InvalidAddress, table.lookup, '0' * length)

    def test_addresses_with_a_wrong_character_at_any_place(self):
        for width in WIDTHS:
            table = Table.of(width, ('', 'a'))
            bits = ('01' * 16)[:width]
            for place in range(width):
                for sign in '2a \t\n*':
                    self.refused(InvalidAddress, table.lookup, bits[:place] + sign + bits[place + 1:])

    def test_with_row(self):
        for prefix in wrong_prefixes(3):
            self.refused(InvalidPrefix, lambda thing: self.table.with_row(thing, 'a'), prefix)
            self.refused(InvalidPrefix, lambda thing: self.table.with_row(thing, 'A'), prefix)
            self.refused(InvalidPrefix, lambda thing: self.table.with_row(thing, None), prefix)
        for target in NO_TARGETS:
            self.refused(InvalidMap, lambda thing: self.table.with_row('0', thing), target)
            self.refused(InvalidMap, lambda thing: self.table.with_row('1', thing), target)

    def test_without(self):
        for prefix in wrong_prefixes(3) + ('0', '00', '100', '11'):
            self.refused(UnknownRow, self.table.without, prefix)

    def test_longest(self):
        for prefix in wrong_prefixes(3):
            self.refused(InvalidPrefix, self.table.longest, prefix)
