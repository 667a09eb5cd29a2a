"""Points 2, 3, 8 and 10: wrong inputs for wishes."""

from keptroutes.errors import InvalidAddress, InvalidMap, InvalidPair, InvalidPrefix, UnknownRow
from keptroutes.tables import Table
from keptroutes.wishes import Wish
from tests.samples import (
    INTEGERS, NO_ALLOWED, NO_TARGETS, NO_TEXTS, NO_WIDTHS, WIDTHS, RefusingTest, raises, wrong_addresses,
    wrong_prefixes,
)

# What stands beside allowed targets: all that is neither a target nor None.
NO_MEMBERS = tuple(thing for thing in NO_TARGETS if thing is not None)


def with_member(thing):
    """Return lists and tuples that hold the object at each place."""
    found = []
    for place in range(4):
        allowed = ['b', None, 'a']
        allowed.insert(place, thing)
        found += [allowed, tuple(allowed)]
    return found + [[thing], (thing,)]


class ConstructorTest(RefusingTest):
    def test_widths(self):
        for width in NO_WIDTHS:
            self.refused(InvalidMap, lambda thing: Wish(thing, {}), width)
            self.refused(InvalidMap, lambda thing: Wish(thing, {'0': ['a']}), width)

    def test_rows_that_are_no_dict(self):
        for rows in NO_TEXTS + INTEGERS + ('', '0', 'a', [('0', ['a'])], (('0', ('a',)),)):
            if not isinstance(rows, dict):
                self.refused(InvalidMap, lambda thing: Wish(2, thing), rows)

    def test_values_in_any_row(self):
        for value in NO_ALLOWED:
            self.refused(InvalidMap, lambda thing: Wish(3, thing), {'': value})
            for wrong in ('1', '01', '10'):
                rows = {'1': ['a'], '01': (), '10': [None]}
                rows[wrong] = value
                self.refused(InvalidMap, lambda thing: Wish(3, thing), rows)

    def test_members_at_any_place(self):
        for member in NO_MEMBERS:
            for value in with_member(member):
                self.refused(InvalidMap, lambda thing: Wish(3, thing), {'1': ['a'], '01': value, '10': [None]})

    def test_members_twice(self):
        for member in ('b', None, 'a'):
            for value in with_member(member)[:8]:
                self.refused(InvalidMap, lambda thing: Wish(3, thing), {'1': ['a'], '01': value})
        # The same target in two rows is not twice.
        self.assertEqual(len(Wish(3, {'1': ['a', None], '01': ['a', None]})), 2)

    def test_prefixes_at_any_place(self):
        for prefix in INTEGERS + ('0000', '2', 'a', ' ', '0\n', '*', '0' * 33):
            for place in range(3):
                keys = ['1', '01']
                keys.insert(place, prefix)
                self.refused(InvalidMap, lambda thing: Wish(3, thing), {key: ['a'] for key in keys})

    def test_prefixes_that_are_too_long_by_one(self):
        for width in WIDTHS:
            self.assertEqual(len(Wish(width, {'1' * width: []})), 1)
            self.refused(InvalidMap, lambda thing: Wish(width, thing), {'1' * (width + 1): []})


class MethodTest(RefusingTest):
    def setUp(self):
        self.wish = Wish(3, {'': ['a', None], '1': [], '10': ['b']})
        self.pairs = [('', (None, 'a')), ('1', ()), ('10', ('b',))]

    def tearDown(self):
        self.assertEqual(list(self.wish.walk()), self.pairs)
        self.assertEqual(self.wish.width, 3)

    def test_with_row_and_an_invalid_value(self):
        for value in NO_ALLOWED:
            for prefix in ('', '0', '1', '101'):
                self.refused(InvalidMap, lambda thing: self.wish.with_row(prefix, thing), value)
        for member in NO_MEMBERS:
            for value in with_member(member):
                self.refused(InvalidMap, lambda thing: self.wish.with_row('0', thing), value)

    def test_with_row_and_an_invalid_prefix(self):
        for prefix in wrong_prefixes(3):
            for value in (['a'], 'a', None, ['a', 'a']):
                self.refused(InvalidPrefix, lambda thing: self.wish.with_row(thing, value), prefix)
                self.refused(InvalidPrefix, lambda thing: self.wish.with_row(value=value, prefix=thing), prefix)

    def test_without(self):
        for prefix in wrong_prefixes(3) + ('0', '00', '100', '11'):
            self.refused(UnknownRow, self.wish.without, prefix)
        self.refused(UnknownRow, Wish(3, {}).without, '')

    def test_longest(self):
        for prefix in wrong_prefixes(3):
            self.refused(InvalidPrefix, self.wish.longest, prefix)

    def test_allowed_for_any_object(self):
        for address in wrong_addresses(3):
            self.refused(InvalidAddress, self.wish.allowed, address)
            self.refused(InvalidAddress, Wish(3, {}).allowed, address)

    def test_addresses_that_are_too_short_or_too_long(self):
        for width in WIDTHS:
            wish = Wish(width, {'': ['a']})
            for length in range(40):
                if length == width:
                    self.assertEqual(wish.allowed('0' * length), ('a',))
                else:
                    self.refused(InvalidAddress, wish.allowed, '0' * length)

    def test_addresses_with_a_wrong_character_at_any_place(self):
        for width in WIDTHS:
            wish = Wish(width, {'': ['a']})
            bits = ('01' * 16)[:width]
            for place in range(width):
                for sign in '2a \t\n*':
                    self.refused(InvalidAddress, wish.allowed, bits[:place] + sign + bits[place + 1:])

    def test_tables_of_other_widths(self):
        for width in range(1, 33):
            for rows in ({}, {'': 'a'}, {'1': 'b', '0': 'q'}):
                table = Table(width, rows)
                for wish in (self.wish, Wish(3, {})):
                    if width != 3:
                        raises(self, InvalidPair, lambda: wish.first_failure(table))
                        raises(self, InvalidPair, lambda: wish.is_fulfilled(table))
                self.assertEqual([table.width, table.rows], [width, rows])
        self.assertIsNone(Wish(3, {}).first_failure(Table(3, {})))
