"""Points 2, 7 and 27: the addresses that two tables lead elsewhere, and those that each change moves."""

import itertools
import types
import unittest

from keptroutes.errors import InvalidPair
from keptroutes.plans import moved_runs, switches
from keptroutes.sequences import changes
from keptroutes.tables import Table
from tests.reference import target_at, walked
from tests.samples import (
    TARGETS, addresses, beside, chances, just_prefixes, near_rows, raises, same, some_pairs,
)


class ExampleTest(unittest.TestCase):
    def test_example_of_the_document(self):
        old, new = Table.of(2, ('', 'a'), ('1', 'b')), Table.of(2, ('', 'c'), ('10', 'a'))
        self.assertEqual(list(switches(old, new)), [
            [('10', '10', 'b', 'a')], [('00', '01', 'a', 'c')], [('11', '11', 'b', 'c')]])


def runs_by_search(width, before, after):
    """Return what moved_runs must return, found address by address."""
    found = []
    for address in addresses(width):
        pair = (target_at(before, address), target_at(after, address))
        if found and found[-1][2:] == pair:
            found[-1] = (found[-1][0], address, *pair)
        else:
            found.append((address, address, *pair))
    return [run for run in found if run[2] != run[3]]


class MovedTest(unittest.TestCase):
    def check(self, width, before, after):
        one, two = Table(width, before), Table(width, after)
        found = moved_runs(one, two)
        with self.subTest(width=width, before=before, after=after):
            self.assertIs(type(found), list)
            self.assertTrue(all(type(run) is tuple and len(run) == 4 for run in found))
            if width < 6:
                self.assertEqual(found, runs_by_search(width, before, after))
            else:
                self.check_runs(width, found, before, after)
            turned = [(first, last, now, was) for first, last, was, now in found]
            self.assertEqual(moved_runs(two, one), turned)
            self.assertTrue(same([one.rows, two.rows], [dict(sorted(before.items())), dict(sorted(after.items()))]))

    def check_runs(self, width, found, before, after):
        for first, last, was, now in found:
            self.assertEqual([len(first), len(last)], [width, width])
            self.assertLessEqual(first, last)
            self.assertNotEqual(was, now)
        for one, two in zip(found, found[1:]):
            self.assertLess(one[1], two[0])
            # Neighbours with the same targets would be one run.
            if int(one[1], 2) + 1 == int(two[0], 2):
                self.assertNotEqual(one[2:], two[2:])
        some = beside(width, list(before) + list(after))
        for address in some[::1 + len(some) // 300]:
            pair = (target_at(before, address), target_at(after, address))
            met = [run[2:] for run in found if run[0] <= address <= run[1]]
            self.assertEqual(met, [pair] if pair[0] != pair[1] else [])

    def test_no_rows(self):
        for width in range(1, 33):
            self.assertEqual(moved_runs(Table(width, {}), Table(width, {})), [])
            self.assertEqual(moved_runs(Table(width, {}), Table(width, {'': 'a'})), [
                ('0' * width, '1' * width, None, 'a')])

    def test_a_table_and_itself(self):
        for chance in chances(10):
            for width in (1, 5, 32):
                table = Table(width, {prefix: chance.choice('ab') for prefix in just_prefixes(chance, width, 3)})
                self.assertEqual(moved_runs(table, table), [])
                self.assertEqual(list(switches(table, table)), [])

    def test_the_same_meaning_by_other_rows(self):
        self.assertEqual(moved_runs(Table.of(3, ('', 'a')), Table.of(3, ('0', 'a'), ('1', 'a'))), [])
        self.assertEqual(moved_runs(Table.of(3, ('', 'a'), ('00', 'b'), ('01', 'b')), Table.of(3, ('0', 'b'))), [
            ('100', '111', 'a', None)])

    def test_neighbours_with_the_same_targets_are_one_run(self):
        one, two = Table.of(3, ('0', 'a'), ('1', 'a')), Table.of(3, ('00', 'b'), ('01', 'b'), ('10', 'b'), ('11', 'c'))
        self.assertEqual(moved_runs(one, two), [('000', '101', 'a', 'b'), ('110', '111', 'a', 'c')])
        one, two = Table.of(2, ('0', 'a'), ('1', 'b')), Table.of(2, ('', 'c'))
        self.assertEqual(moved_runs(one, two), [('00', '01', 'a', 'c'), ('10', '11', 'b', 'c')])
        # The same targets, but other addresses between them.
        one, two = Table.of(2, ('', 'a')), Table.of(2, ('00', 'b'), ('01', 'a'), ('10', 'b'), ('11', 'b'))
        self.assertEqual(moved_runs(one, two), [('00', '00', 'a', 'b'), ('10', '11', 'a', 'b')])

    def test_all_tables_of_width_1(self):
        every = [dict(zip(('', '0', '1'), chosen)) for chosen in itertools.product((None, 'a', 'b'), repeat=3)]
        tables = [{prefix: target for prefix, target in rows.items() if target} for rows in every]
        for before, after in itertools.product(tables, tables):
            self.check(1, before, after)

    def test_pairs_of_all_widths(self):
        for width in range(1, 33):
            for chance in chances(6):
                for before, after in some_pairs(chance, width, chance.choice((3, 6, 10)), 'ab'):
                    self.check(width, before, after)

    def test_forty_rows_and_more(self):
        for chance in chances(3):
            for width in (6, 17, 32):
                for many in (40, 100):
                    before, after = [{prefix: chance.choice(TARGETS[:3]) for prefix in just_prefixes(
                        chance, width, many)} for _ in range(2)]
                    self.check(width, before, after)
                    self.check(width, before, near_rows(chance, width, before, TARGETS, 6))

    def test_every_second_address(self):
        before = {address: 'ab'[number % 2] for number, address in enumerate(addresses(5))}
        self.check(5, before, {'': 'a'})
        self.check(5, before, {address: 'ba'[int(address, 2) % 2] for address in before})

    def test_the_list_is_new(self):
        one, two = Table.of(2, ('1', 'a')), Table.of(2, ('', 'b'))
        moved_runs(one, two).clear()
        self.assertIsNot(moved_runs(one, two), moved_runs(one, two))
        self.assertEqual(moved_runs(one, two), [('00', '01', None, 'b'), ('10', '11', 'a', 'b')])

    def test_arguments_by_name(self):
        one, two = Table.of(1, ('1', 'a')), Table.of(1, ('', 'b'))
        self.assertEqual(moved_runs(after=two, before=one), [('0', '0', None, 'b'), ('1', '1', 'a', 'b')])
        self.assertEqual(moved_runs(one, after=one), [])
        self.assertEqual(list(switches(new=two, old=one)), [[('0', '0', None, 'b')], [('1', '1', 'a', 'b')]])


class SwitchesTest(unittest.TestCase):
    def check(self, width, old, new):
        one, two = Table(width, old), Table(width, new)
        found = list(switches(one, two))
        tables = [old] + walked(old, changes(one, two))
        with self.subTest(width=width, old=old, new=new):
            self.assertEqual(found, [moved_runs(Table(width, before), Table(width, after))
                                     for before, after in zip(tables, tables[1:])])
            if width < 6:
                self.assertEqual(found, [runs_by_search(width, before, after)
                                         for before, after in zip(tables, tables[1:])])
            some = addresses(width) if width < 6 else beside(width, list(old) + list(new))
            for address in some[::1 + len(some) // 100]:
                pair = (target_at(old, address), target_at(new, address))
                met = [run[2:] for runs in found for run in runs if run[0] <= address <= run[1]]
                self.assertEqual(met, [pair] if pair[0] != pair[1] else [])
            self.assertTrue(same([one.rows, two.rows], [dict(sorted(old.items())), dict(sorted(new.items()))]))

    def test_pairs_of_all_widths(self):
        for width in range(1, 33):
            for chance in chances(4):
                for old, new in some_pairs(chance, width, chance.choice((3, 8)), 'abc'):
                    self.check(width, old, new)

    def test_forty_rows_and_more(self):
        for chance in chances(1):
            for width in (6, 32):
                for many in (40, 100):
                    old, new = [{prefix: chance.choice(TARGETS) for prefix in just_prefixes(chance, width, many)}
                                for _ in range(2)]
                    self.check(width, old, new)

    def test_a_change_that_moves_nothing(self):
        old = Table.of(2, ('', 'a'), ('0', 'b'))
        new = Table.of(2, ('', 'a'), ('0', 'b'), ('01', 'b'), ('1', 'a'))
        self.assertEqual(list(switches(old, new)), [[], []])

    def test_it_is_a_generator(self):
        old, new = Table.of(2, ('', 'a'), ('1', 'b')), Table.of(2, ('', 'c'), ('10', 'a'))
        expected = [[('10', '10', 'b', 'a')], [('00', '01', 'a', 'c')], [('11', '11', 'b', 'c')]]
        walk = switches(old, new)
        self.assertIsInstance(walk, types.GeneratorType)
        first = next(walk)
        self.assertEqual(first, expected[0])
        self.assertEqual(list(switches(old, new)), expected)
        first.clear()
        self.assertEqual(list(walk), expected[1:])
        self.assertEqual(list(walk), [])
        self.assertEqual(list(switches(old, new)), expected)
        met = [(one, two) for one in switches(old, new) for two in switches(old, new)]
        self.assertEqual(met, list(itertools.product(expected, expected)))

    def test_other_widths(self):
        for one, two in itertools.product((1, 2, 3, 31, 32), repeat=2):
            if one != two:
                for rows, others in (({}, {}), ({'1': 'a'}, {}), ({}, {'': 'a'}), ({'0': 'a'}, {'0': 'a'})):
                    left, right = Table(one, rows), Table(two, others)
                    raises(self, InvalidPair, lambda: moved_runs(left, right))
                    raises(self, InvalidPair, lambda: list(switches(left, right)))
                    raises(self, InvalidPair, lambda: next(switches(left, right)))
                    self.assertEqual([left.rows, right.rows], [rows, others])
