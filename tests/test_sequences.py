"""Points 2, 7, 20 and 21: the changes from one table to another, and the tables between them."""

import itertools
import types
import unittest

from keptroutes.errors import InvalidPair
from keptroutes.sequences import changes, is_safe, moments
from keptroutes.tables import Table
from tests.reference import changes_of, is_safe_by_search, target_at, walked
from tests.samples import (
    TARGETS, addresses, beside, chances, just_prefixes, near_rows, raises, same, some_pairs,
)


class ExampleTest(unittest.TestCase):
    def test_example_of_the_document(self):
        old = Table.of(2, ('', 'a'), ('1', 'b'))
        new = Table.of(2, ('', 'c'), ('10', 'a'))
        self.assertEqual(changes(old, new), [('10', 'a'), ('', 'c'), ('1', None)])
        self.assertIs(is_safe(old, new, [('1', None), ('10', 'a'), ('', 'c')]), False)


class SequenceTest(unittest.TestCase):
    def check(self, width, old, new):
        """Check the changes and the moments from the one to the other rows."""
        one, two = Table(width, old), Table(width, new)
        before = [one.rows, two.rows]
        found = changes(one, two)
        with self.subTest(width=width, old=old, new=new):
            self.assertIs(type(found), list)
            self.assertTrue(all(type(change) is tuple for change in found))
            self.assertEqual(found, changes_of(old, new))
            self.check_order(old, found)
            self.check_moments(one, two, walked(old, found))
            self.check_addresses(width, old, new, found)
            self.assertIs(is_safe(one, two, found), True)
            self.assertTrue(same([one.rows, two.rows], before))

    def check_order(self, old, found):
        removals = [target is None for _, target in found]
        self.assertEqual(removals, sorted(removals))
        self.assertTrue(all(prefix in old for prefix, target in found if target is None))
        for (one, first), (two, second) in zip(found, found[1:]):
            if first is not None and second is not None:
                self.assertTrue(len(one) > len(two) or len(one) == len(two) and one < two)
            elif second is None and first is None:
                self.assertTrue(len(one) < len(two) or len(one) == len(two) and one < two)

    def check_moments(self, one, two, expected):
        found = list(moments(one, two))
        self.assertTrue(all(type(table) is Table for table in found))
        self.assertEqual([table.rows for table in found], expected)
        self.assertTrue(all(table.width == one.width for table in found))
        if expected:
            self.assertEqual(found[-1], two)
        else:
            self.assertEqual(one, two)

    def check_addresses(self, width, old, new, found):
        """Check that each address is moved once if it leads elsewhere afterwards, and never otherwise."""
        some = addresses(width) if width < 5 else beside(width, list(old) + list(new))
        some = some[::1 + len(some) // 150]
        self.assertTrue(is_safe_by_search(old, new, found, some))
        tables = [old] + walked(old, found)
        for address in some:
            met = [target_at(rows, address) for rows in tables]
            moved = sum(before != after for before, after in zip(met, met[1:]))
            self.assertEqual(moved, int(target_at(old, address) != target_at(new, address)))

    def test_one_change(self):
        for width in range(1, 33):
            for prefix in ('', '1', '0' * width):
                self.check(width, {}, {prefix: 'a'})
                self.check(width, {prefix: 'a'}, {})
                self.check(width, {prefix: 'a'}, {prefix: 'b'})
                self.check(width, {prefix: 'a'}, {prefix: 'a'})

    def test_the_order(self):
        old = Table.of(3, ('', 'a'), ('0', 'a'), ('1', 'b'), ('11', 'c'), ('101', 'd'), ('100', 'e'), ('011', 'f'))
        new = Table.of(3, ('', 'b'), ('0', 'a'), ('00', 'c'), ('10', 'd'), ('101', 'e'), ('000', 'e'), ('001', 'a'))
        self.assertEqual(changes(old, new), [
            ('000', 'e'), ('001', 'a'), ('101', 'e'), ('00', 'c'), ('10', 'd'), ('', 'b'),
            ('1', None), ('11', None), ('011', None), ('100', None),
        ])
        self.check(3, old.rows, new.rows)
        self.check(3, new.rows, old.rows)

    def test_equal_tables(self):
        for rows in ({}, {'': 'a'}, {'0': 'a', '01': 'b', '1': 'c'}):
            for width in (2, 3, 32):
                self.assertEqual(changes(Table(width, rows), Table(width, dict(rows))), [])
                self.assertEqual(list(moments(Table(width, rows), Table(width, dict(rows)))), [])

    def test_all_pairs_of_width_1(self):
        every = [dict(zip(('', '0', '1'), chosen)) for chosen in itertools.product((None, 'a', 'b'), repeat=3)]
        tables = [{prefix: target for prefix, target in rows.items() if target} for rows in every]
        for old, new in itertools.product(tables, tables):
            self.check(1, old, new)

    def test_pairs_of_all_widths(self):
        for width in range(1, 33):
            for chance in chances(3):
                for old, new in some_pairs(chance, width, chance.choice((3, 6, 10)), 'abc'):
                    self.check(width, old, new)

    def test_forty_rows_and_more(self):
        for chance in chances(2):
            for width in (6, 17, 32):
                for many in (40, 100):
                    old, new = [{prefix: chance.choice(TARGETS) for prefix in just_prefixes(chance, width, many)}
                                for _ in range(2)]
                    self.check(width, old, near_rows(chance, width, old, TARGETS, 5))
                    self.check(width, old, new)

    def test_the_list_is_new(self):
        old, new = Table.of(2, ('', 'a')), Table.of(2, ('1', 'b'))
        changes(old, new).clear()
        self.assertIsNot(changes(old, new), changes(old, new))
        self.assertEqual(changes(old, new), [('1', 'b'), ('', None)])


class MomentsTest(unittest.TestCase):
    def setUp(self):
        self.old = Table.of(2, ('', 'a'), ('1', 'b'))
        self.new = Table.of(2, ('', 'c'), ('10', 'a'))
        self.found = [
            Table.of(2, ('', 'a'), ('1', 'b'), ('10', 'a')),
            Table.of(2, ('', 'c'), ('1', 'b'), ('10', 'a')),
            Table.of(2, ('', 'c'), ('10', 'a')),
        ]

    def test_it_is_a_generator(self):
        walk = moments(self.old, self.new)
        self.assertIsInstance(walk, types.GeneratorType)
        self.assertEqual(next(walk), self.found[0])
        self.assertEqual(list(moments(self.old, self.new)), self.found)
        self.assertEqual(list(walk), self.found[1:])
        self.assertEqual(list(walk), [])

    def test_twice_and_one_within_another(self):
        for _ in range(2):
            self.assertEqual(list(moments(self.old, self.new)), self.found)
        met = [(one, two) for one in moments(self.old, self.new) for two in moments(self.old, self.new)]
        self.assertEqual(met, list(itertools.product(self.found, self.found)))

    def test_arguments_by_name(self):
        self.assertEqual(list(moments(new=self.new, old=self.old)), self.found)
        self.assertEqual(list(moments(self.old, new=self.new)), self.found)
        self.assertEqual(changes(new=self.new, old=self.old), [('10', 'a'), ('', 'c'), ('1', None)])
        self.assertIs(is_safe(thing=changes(self.old, self.new), new=self.new, old=self.old), True)
        self.assertIs(is_safe(new=self.old, thing=changes(self.old, self.new), old=self.new), False)


class WidthsTest(unittest.TestCase):
    def test_other_widths(self):
        for one, two in itertools.product((1, 2, 3, 31, 32), repeat=2):
            if one != two:
                for rows, others in (({}, {}), ({'1': 'a'}, {}), ({}, {'': 'a'}), ({'0': 'a'}, {'0': 'a'})):
                    left, right = Table(one, rows), Table(two, others)
                    raises(self, InvalidPair, lambda: changes(left, right))
                    raises(self, InvalidPair, lambda: list(moments(left, right)))
                    raises(self, InvalidPair, lambda: next(moments(left, right)))
                    for thing in ([], [('1', 'a')], None, (), 'a', [None], {}):
                        raises(self, InvalidPair, lambda: is_safe(left, right, thing))
                    self.assertEqual([left.rows, right.rows], [rows, others])
