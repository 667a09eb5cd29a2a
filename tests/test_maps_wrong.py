"""Points 2, 3 and 8: wrong inputs for maps."""

import unittest

from keptroutes.errors import InvalidMap, InvalidPrefix, UnknownRow
from keptroutes.maps import PrefixMap
from tests.samples import (
    INTEGERS, NO_TEXTS, NO_WIDTHS, WIDTHS, RefusingTest, kept_as_it_was, raises, wrong_prefixes,
)

# Objects of all kinds that are no values of the base class.
NO_VALUES = NO_TEXTS + ('', '0', '1', 'a', '-')
# Objects of all kinds that can be keys of a dict and are no prefixes of width 3.
NO_KEYS = INTEGERS + ('0000', '01010', ' ', '2', 'a', '0 ', '0\n', '\t1', '*', '0' * 33)


class ConstructorTest(unittest.TestCase):
    def refused(self, width, rows):
        with self.subTest(width=repr(width)[:60], rows=repr(rows)[:60]):
            kept_as_it_was(self, width, lambda: kept_as_it_was(
                self, rows, lambda: raises(self, InvalidMap, lambda: PrefixMap(width, rows))))

    def test_widths(self):
        for width in NO_WIDTHS:
            self.refused(width, {})
            self.refused(width, {'0': 1})

    def test_rows_that_are_no_dict(self):
        for rows in NO_TEXTS + INTEGERS + ('', '0', [('0', 1)], (('0', 1),), ['0', 1]):
            if rows != {}:
                self.refused(3, rows)

    def test_both_at_once(self):
        for width in NO_WIDTHS:
            self.refused(width, None)
            self.refused(width, {'2': 1})
            self.refused(width, [])

    def test_keys_first_in_the_middle_and_last(self):
        for key in NO_KEYS:
            self.refused(3, {key: 1})
            for place in range(3):
                keys = ['1', '01']
                keys.insert(place, key)
                self.refused(3, {each: 1 for each in keys})

    def test_values_first_in_the_middle_and_last(self):
        for value in NO_VALUES:
            self.refused(3, {'': value})
            for wrong in ('1', '01', '10'):
                rows = {'1': 1, '01': 2, '10': 3}
                rows[wrong] = value
                self.refused(3, rows)

    def test_keys_that_are_too_long_by_one(self):
        for width in WIDTHS:
            PrefixMap(width, {'0' * width: 1})
            self.refused(width, {'0' * (width + 1): 1})
            self.refused(width, {'': 1, '1' * (width + 1): 1})

    def test_a_key_that_is_an_integer_beside_strings(self):
        self.refused(3, {'0': 1, 0: 1, '1': 1})
        self.refused(3, {0: 1, '0': True})


class MethodTest(RefusingTest):
    def setUp(self):
        self.rows = {'': 5, '1': 7, '10': 9}
        self.some = PrefixMap(3, self.rows)

    def tearDown(self):
        self.assertEqual(list(self.some.walk()), [('', 5), ('1', 7), ('10', 9)])
        self.assertEqual(self.some.width, 3)

    def test_with_row_and_an_invalid_prefix(self):
        for prefix in wrong_prefixes(3):
            self.refused(InvalidPrefix, lambda thing: self.some.with_row(thing, 1), prefix)

    def test_with_row_and_an_invalid_value(self):
        for value in NO_VALUES:
            self.refused(InvalidMap, lambda thing: self.some.with_row('0', thing), value)
            self.refused(InvalidMap, lambda thing: self.some.with_row('1', thing), value)

    def test_with_row_and_both_invalid(self):
        for prefix in wrong_prefixes(3):
            self.refused(InvalidPrefix, lambda thing: self.some.with_row(thing, True), prefix)
            self.refused(InvalidPrefix, lambda thing: self.some.with_row(value='a', prefix=thing), prefix)

    def test_without_for_any_object(self):
        for prefix in wrong_prefixes(3) + ('0', '00', '100', '11', '010'):
            self.refused(UnknownRow, self.some.without, prefix)
        self.refused(UnknownRow, PrefixMap(3, {}).without, '')

    def test_without_twice(self):
        less = self.some.without('1')
        self.refused(UnknownRow, less.without, '1')

    def test_longest_for_any_object(self):
        for prefix in wrong_prefixes(3):
            self.refused(InvalidPrefix, self.some.longest, prefix)
            self.refused(InvalidPrefix, PrefixMap(3, {}).longest, prefix)

    def test_prefixes_that_are_too_long_by_one(self):
        for width in WIDTHS:
            some = PrefixMap(width, {'': 1})
            self.assertEqual(some.longest('1' * width), '')
            self.assertEqual(len(some.with_row('1' * width, 2)), 2)
            self.refused(InvalidPrefix, some.longest, '1' * (width + 1))
            self.refused(InvalidPrefix, lambda thing: some.with_row(thing, 2), '1' * (width + 1))
            self.refused(UnknownRow, some.without, '1' * (width + 1))
