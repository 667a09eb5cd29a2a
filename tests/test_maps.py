"""Points 2, 3, 4 and 8: maps in use."""

import itertools
import types
import unittest

from keptroutes.errors import InvalidMap
from keptroutes.maps import PrefixMap
from keptroutes.tables import Table
from keptroutes.wishes import Wish
from tests.samples import NO_STRINGS, WIDTHS, longest_by_search, prefixes, raises


class Special(PrefixMap):
    """A class of its own, to see that changed maps keep it."""


class ExampleTest(unittest.TestCase):
    def test_example_of_the_document(self):
        some = PrefixMap(3, {'1': 7, '': 5, '10': 9})
        self.assertEqual(list(some.walk()), [('', 5), ('1', 7), ('10', 9)])
        self.assertEqual([some.longest('101'), some.longest('0'), some.without('').longest('0')], ['10', '', None])
        raises(self, InvalidMap, lambda: PrefixMap(3, {'0101': 1}))


class RowsTest(unittest.TestCase):
    def test_width_and_rows(self):
        for width in WIDTHS:
            some = PrefixMap(width, {'1': 1, '0' * width: -10 ** 39, '': 0})
            self.assertEqual(some.width, width)
            self.assertIs(type(some.width), int)
            self.assertEqual(some.rows, {'': 0, '0' * width: -10 ** 39, '1': 1})
            self.assertIs(type(some.rows), dict)

    def test_every_width_from_1_to_32(self):
        for width in range(1, 33):
            self.assertEqual(PrefixMap(width, {'1' * width: width}).rows, {'1' * width: width})

    def test_rows_are_in_ascending_order(self):
        expected = ['', '0', '00', '01', '1', '10', '11']
        for order in ([0, 1, 2, 3, 4, 5, 6], [6, 5, 4, 3, 2, 1, 0], [3, 1, 6, 0, 5, 2, 4]):
            some = PrefixMap(2, {expected[place]: place for place in order})
            self.assertEqual(list(some.rows), expected)
            self.assertEqual(list(some.walk()), [(prefix, place) for place, prefix in enumerate(expected)])

    def test_number_of_rows(self):
        for many in range(8):
            self.assertEqual(len(PrefixMap(2, {prefix: 1 for prefix in prefixes(2)[:many]})), many)

    def test_no_row(self):
        some = PrefixMap(4, {})
        self.assertEqual([some.width, some.rows, len(some), list(some.walk())], [4, {}, 0, []])
        self.assertIsNone(some.longest(''))
        self.assertIsNone(some.longest('0101'))

    def test_the_dict_passed_is_copied(self):
        rows = {'1': 1, '0': 0}
        some = PrefixMap(2, rows)
        self.assertEqual(list(rows.items()), [('1', 1), ('0', 0)])
        rows['0'] = 5
        rows['11'] = 6
        del rows['1']
        self.assertEqual(some.rows, {'0': 0, '1': 1})
        self.assertEqual(some.longest('11'), '1')

    def test_the_dict_returned_is_new(self):
        some = PrefixMap(2, {'1': 1, '0': 0})
        some.rows['1'] = 9
        some.rows.clear()
        self.assertIsNot(some.rows, some.rows)
        self.assertEqual(some.rows, {'0': 0, '1': 1})
        self.assertEqual(len(some), 2)

    def test_a_hundred_rows(self):
        rows = {format(number, 'b').zfill(32): number for number in range(99, -1, -1)}
        some = PrefixMap(32, rows)
        self.assertEqual(list(some.walk()), sorted(rows.items()))

    def test_arguments_by_name(self):
        some = PrefixMap(rows={'1': 7}, width=3)
        self.assertEqual(some, PrefixMap(3, rows={'1': 7}))
        self.assertEqual(some.longest(prefix='10'), '1')
        self.assertEqual(some.with_row(value=2, prefix='0').rows, {'0': 2, '1': 7})
        self.assertEqual(some.with_row('0', value=2).rows, {'0': 2, '1': 7})
        self.assertEqual(some.without(prefix='1').rows, {})


class WalkTest(unittest.TestCase):
    def setUp(self):
        self.some = PrefixMap(3, {'1': 7, '': 5, '10': 9})
        self.pairs = [('', 5), ('1', 7), ('10', 9)]

    def test_it_is_a_generator_of_tuples(self):
        self.assertIsInstance(self.some.walk(), types.GeneratorType)
        self.assertEqual([type(pair) for pair in self.some.walk()], [tuple, tuple, tuple])

    def test_twice(self):
        self.assertEqual(list(self.some.walk()), self.pairs)
        self.assertEqual(list(self.some.walk()), self.pairs)

    def test_one_within_another(self):
        met = [(one, two) for one in self.some.walk() for two in self.some.walk()]
        self.assertEqual(met, list(itertools.product(self.pairs, self.pairs)))

    def test_a_walk_that_is_broken_off(self):
        walk = self.some.walk()
        self.assertEqual(next(walk), ('', 5))
        self.assertEqual(list(self.some.walk()), self.pairs)
        self.assertEqual(list(walk), self.pairs[1:])


class LongestTest(unittest.TestCase):
    def check_all(self, width, rows):
        some = PrefixMap(width, {prefix: 1 for prefix in rows})
        for start in prefixes(width):
            with self.subTest(rows=rows, start=start):
                self.assertEqual(some.longest(start), longest_by_search(rows, start))

    def test_all_sets_of_rows_of_width_2(self):
        every = prefixes(2)
        for many in range(len(every) + 1):
            for rows in itertools.combinations(every, many):
                self.check_all(2, rows)

    def test_some_sets_of_rows_of_width_5(self):
        every = prefixes(5)
        for step in (2, 3, 5, 7, 11, 17):
            for start in range(step):
                self.check_all(5, every[start::step])
        self.check_all(5, ['0', '01', '011', '0110', '01101'])

    def test_a_prefix_that_is_a_row_longer_or_shorter(self):
        some = PrefixMap(4, {'01': 1, '0110': 2})
        self.assertEqual(some.longest('01'), '01')
        self.assertEqual(some.longest('0110'), '0110')
        self.assertEqual(some.longest('011'), '01')
        self.assertEqual(some.longest('0111'), '01')
        self.assertIsNone(some.longest('0'))
        self.assertIsNone(some.longest(''))
        self.assertIsNone(some.longest('10'))

    def test_the_empty_prefix_is_a_row(self):
        some = PrefixMap(4, {'': 0, '01': 1})
        self.assertEqual([some.longest(start) for start in ('', '0', '01', '0111', '1')], ['', '', '01', '01', ''])

    def test_nested_rows_up_to_width_32(self):
        path = '0110' * 8
        every = PrefixMap(32, {path[:length]: length for length in range(33)})
        even = PrefixMap(32, {path[:length]: length for length in range(2, 33, 2)})
        for length in range(33):
            self.assertEqual(every.longest(path[:length]), path[:length])
            self.assertEqual(even.longest(path[:length]), path[:length // 2 * 2] or None)
        for length in range(32):
            aside = path[:length] + ('1' if path[length] == '0' else '0')
            address = aside + '1' * (31 - length)
            self.assertEqual(every.longest(address), path[:length])
            self.assertEqual(even.longest(address), path[:length // 2 * 2] or None)


class ChangedMapTest(unittest.TestCase):
    def setUp(self):
        self.rows = {'': 5, '1': 7, '10': 9}
        self.some = PrefixMap(3, {'1': 7, '': 5, '10': 9})

    def test_a_new_row(self):
        more = self.some.with_row('011', 4)
        self.assertEqual(list(more.walk()), [('', 5), ('011', 4), ('1', 7), ('10', 9)])
        self.assertEqual(more.width, 3)
        self.assertEqual(self.some.rows, self.rows)

    def test_an_existing_row(self):
        for prefix in self.rows:
            other = self.some.with_row(prefix, -1)
            self.assertEqual(other.rows, {**self.rows, prefix: -1})
            self.assertEqual(self.some.rows, self.rows)
        self.assertEqual(self.some.with_row('1', 7), self.some)

    def test_without_a_row(self):
        for prefix in self.rows:
            less = self.some.without(prefix)
            self.assertEqual(less.rows, {kept: self.rows[kept] for kept in self.rows if kept != prefix})
            self.assertEqual([less.width, len(less)], [3, 2])
            self.assertEqual(self.some.rows, self.rows)

    def test_there_and_back(self):
        self.assertEqual(self.some.with_row('0', 1).without('0'), self.some)
        self.assertEqual(self.some.without('').with_row('', 5), self.some)
        self.assertEqual(len(self.some.without('').without('1').without('10')), 0)

    def test_the_class_is_kept(self):
        for made in (PrefixMap, Special):
            some = made(2, {'0': 1})
            self.assertIs(type(some.with_row('1', 1)), made)
            self.assertIs(type(some.with_row('0', 2)), made)
            self.assertIs(type(some.without('0')), made)
        table = Table(2, {'0': 'a'})
        self.assertIs(type(table.with_row('1', 'b')), Table)
        self.assertIs(type(table.with_row('0', 'b')), Table)
        self.assertIs(type(table.without('0')), Table)


class EqualityTest(unittest.TestCase):
    def check(self, one, two, expected):
        for left, right in ((one, two), (two, one)):
            with self.subTest(left=left, right=right):
                self.assertIs(left == right, expected)
                self.assertIs(left != right, not expected)

    def test_equal_maps(self):
        some = PrefixMap(2, {'0': 1, '': 2})
        self.check(some, some, True)
        self.check(some, PrefixMap(2, {'': 2, '0': 1}), True)
        self.check(PrefixMap(2, {}), PrefixMap(2, {}), True)
        self.check(Table(2, {'0': 'a'}), Table(2, {'0': 'a'}), True)
        self.check(Special(2, {'0': 1}), Special(2, {'0': 1}), True)
        self.check(Wish(2, {}), Wish(2, {}), True)
        self.check(Wish(2, {'0': ['b', None], '': []}), Wish(2, {'': (), '0': (None, 'b')}), True)

    def test_other_rows(self):
        some = PrefixMap(2, {'0': 1, '': 2})
        for rows in ({}, {'0': 1}, {'0': 1, '': 3}, {'0': 1, '1': 2}, {'0': 2, '': 1}, {'0': 1, '': 2, '1': 2}):
            self.check(some, PrefixMap(2, rows), False)
        self.check(Table(2, {'0': 'a'}), Table(2, {'0': 'b'}), False)
        for rows in ({}, {'0': []}, {'0': [None]}, {'0': ['a', 'b']}, {'1': ['a']}, {'0': ['a'], '': []}):
            self.check(Wish(2, {'0': ['a']}), Wish(2, rows), False)

    def test_other_widths(self):
        self.check(PrefixMap(2, {'0': 1}), PrefixMap(3, {'0': 1}), False)
        self.check(PrefixMap(2, {}), PrefixMap(1, {}), False)
        self.check(Table(2, {'0': 'a'}), Table(3, {'0': 'a'}), False)
        self.check(Wish(2, {'0': ['a']}), Wish(3, {'0': ['a']}), False)
        self.check(Wish(2, {}), Wish(1, {}), False)

    def test_other_classes(self):
        self.check(PrefixMap(2, {}), Table(2, {}), False)
        self.check(PrefixMap(2, {}), Special(2, {}), False)
        self.check(Table(2, {}), Special(2, {}), False)
        self.check(PrefixMap(2, {'0': 1}), Special(2, {'0': 1}), False)
        for other in (PrefixMap(2, {}), Table(2, {}), Special(2, {})):
            self.check(Wish(2, {}), other, False)
        for other in (PrefixMap(2, {'0': 1}), Table(2, {'0': 'a'}), Table(2, {'0': 'any'})):
            self.check(Wish(2, {'0': ['a']}), other, False)
            self.check(Wish.exact(Table(2, {'0': 'a'})), other, False)

    def test_objects_that_are_no_maps(self):
        maps = (PrefixMap(2, {}), PrefixMap(2, {'0': 1}), Table(2, {}), Table(2, {'0': 'a'}))
        for some in maps + (Wish(2, {}), Wish(2, {'0': ['a']})):
            for thing in NO_STRINGS + ('', '0', some.rows, some.width, list(some.walk()), object(), PrefixMap):
                self.assertIs(some == thing, False)
                self.assertIs(thing == some, False)
                self.assertIs(some != thing, True)
                self.assertIs(thing != some, True)
