"""Points 2, 7 and 15: obstacles."""

import itertools
import types
import unittest

from keptroutes.errors import UnknownLeaf
from keptroutes.obstacles import first_obstacle, is_obstacle, obstacles
from keptroutes.tables import Table
from keptroutes.tasks import Prices, Task
from keptroutes.wishes import Wish
from tests.made import Parts, large_parts, some_parts
from tests.reference import is_obstacle_of
from tests.samples import NO_BITS, NO_STRINGS, chances, kept_as_it_was, prefixes, raises


class ExampleTest(unittest.TestCase):
    def test_example_of_the_document(self):
        locked = Prices().with_row('1', None)
        task = Task(Table.of(2, ('1', 'b')), Wish(2, {'': ['a', None], '11': [None]}), locked)
        self.assertEqual(list(obstacles(task)), ['11'])
        self.assertEqual(first_obstacle(task), '11')
        self.assertEqual([is_obstacle(task, leaf) for leaf in task.leaves], [False, False, True])


class ObstacleTest(unittest.TestCase):
    def check(self, parts):
        task = parts.task
        found = [leaf for leaf in task.leaves
                 if is_obstacle_of(leaf, parts.width, parts.table, parts.wish, parts.single)]
        with self.subTest(parts=parts):
            self.assertEqual(list(obstacles(task)), found)
            self.assertEqual(first_obstacle(task), found[0] if found else None)
            for leaf in task.leaves:
                self.assertIs(is_obstacle(task, leaf), leaf in found)

    def only(self, width, table, wish, single, expected):
        """Check that these are the obstacles."""
        parts = Parts(width, table, wish, (1, 1, 1), single)
        self.assertEqual(list(obstacles(parts.task)), expected)
        self.check(parts)

    def test_a_locked_row_with_a_target_that_is_not_allowed(self):
        for wish, expected in (
            ({'11': ['a']}, ['11']), ({'': ['a', 'c']}, ['11']), ({'': ['a'], '1': ['a', 'b']}, []),
            ({'11': ['b', None]}, []), ({'11': [None, 'a']}, ['11']), ({}, []), ({'10': ['a']}, []),
        ):
            self.only(2, {'11': 'b'}, wish, {'11': None}, expected)
            # The same row with a price, or a lock of another row, is no obstacle.
            self.only(2, {'11': 'b'}, wish, {'11': 5}, [])
            self.only(2, {'11': 'b'}, wish, {'1': None, '10': None}, [])

    def test_a_locked_row_that_is_no_address_is_overruled(self):
        self.only(2, {'1': 'b'}, {'1': ['a']}, {'1': None}, [])
        self.only(2, {'': 'b'}, {'0': ['a'], '1': ['c', None]}, {'': None}, [])

    def test_nothing_allowed(self):
        self.only(2, {}, {'': []}, {}, [''])
        self.only(2, {'': 'a'}, {'': []}, {}, ['0', '1'])
        self.only(2, {}, {'': [], '01': ['a']}, {}, ['00', '1'])
        self.only(2, {'0': 'a'}, {'1': [], '00': [], '01': [None]}, {}, ['00', '1'])
        self.only(32, {}, {'1' * 32: []}, {}, ['1' * 32])

    def test_only_none_allowed_below_a_locked_row(self):
        self.only(2, {'': 'a'}, {'': [None]}, {'': None}, ['0', '1'])
        self.only(2, {'1': 'a'}, {'': [None]}, {'1': None}, ['10', '11'])
        self.only(2, {'11': 'a'}, {'': [None]}, {'11': None}, ['11'])
        self.only(3, {'1': 'a', '': 'b'}, {'10': [None], '0': [None], '110': ['a', None]}, {'1': None}, ['10'])
        # None beside a target, a row that is not locked, or a locked row elsewhere is no obstacle.
        self.only(2, {'1': 'a'}, {'': [None, 'b']}, {'1': None}, [])
        self.only(2, {'1': 'a'}, {'': [None]}, {'1': 7}, [])
        self.only(2, {'1': 'a'}, {'0': [None]}, {'1': None}, [])
        self.only(2, {'0': 'a'}, {'1': [None]}, {'1': None, '': None}, [])

    def test_all_kinds_at_once(self):
        table = {'000': 'a', '1': 'b', '01': 'c'}
        wish = {'000': ['b'], '011': [], '10': [None], '110': ['z'], '111': [None]}
        self.only(3, table, wish, {'000': None, '1': None}, ['000', '011', '10', '111'])
        self.only(3, table, wish, {}, ['011'])

    def test_many_tasks(self):
        found = 0
        for chance in chances(150):
            for width in (1, 2, 3, 5, 32):
                parts = some_parts(chance, width, 5, 5)
                self.check(parts)
                found += first_obstacle(parts.task) is not None
        self.assertTrue(100 < found < 650)

    def test_width_32_with_forty_rows(self):
        for chance in chances(3):
            parts = large_parts(chance, 32, 60)
            self.assertIsNone(first_obstacle(parts.task))
            for prefix in list(parts.wish)[::7]:
                self.check(parts.changed(wish={**parts.wish, prefix: []}))
                self.check(parts.changed(wish={**parts.wish, prefix: [None]}))


class GeneratorTest(unittest.TestCase):
    def setUp(self):
        self.task = Task(Table.of(2, ('0', 'a')), Wish(2, {'': []}), Prices())

    def test_it_is_a_generator(self):
        self.assertIsInstance(obstacles(self.task), types.GeneratorType)
        walk = obstacles(self.task)
        self.assertEqual(next(walk), '00')
        self.assertEqual(list(obstacles(self.task)), ['00', '01', '1'])
        self.assertEqual(list(walk), ['01', '1'])

    def test_twice_and_one_within_another(self):
        found = ['00', '01', '1']
        self.assertEqual(list(obstacles(self.task)), found)
        self.assertEqual(list(obstacles(self.task)), found)
        met = [(one, two) for one in obstacles(self.task) for two in obstacles(self.task)]
        self.assertEqual(met, list(itertools.product(found, found)))

    def test_arguments_by_name(self):
        self.assertEqual(list(obstacles(task=self.task)), ['00', '01', '1'])
        self.assertEqual(first_obstacle(task=self.task), '00')
        self.assertIs(is_obstacle(leaf='1', task=self.task), True)


class UnknownLeafTest(unittest.TestCase):
    def setUp(self):
        self.task = Task(Table.of(3, ('0', 'a')), Wish(3, {'11': ['b'], '10': []}), Prices())

    def refused(self, thing):
        with self.subTest(repr(thing)[:60]):
            kept_as_it_was(self, thing, lambda: raises(self, UnknownLeaf, lambda: is_obstacle(self.task, thing)))

    def test_prefixes_that_are_no_leaves(self):
        leaves = ['00', '01', '10', '11']
        self.assertEqual(self.task.leaves, leaves)
        for prefix in prefixes(3):
            if prefix in leaves:
                self.assertIs(is_obstacle(self.task, prefix), prefix == '10')
            else:
                self.refused(prefix)

    def test_strings_that_are_no_prefixes(self):
        for thing in NO_BITS + ('0000', '0' * 33, '00 ', ' 00', '1' * 5000):
            self.refused(thing)

    def test_objects_of_all_kinds(self):
        for thing in NO_STRINGS + (['00'], ('00',), {'00': 'a'}, 11):
            self.refused(thing)

    def test_the_task_stays(self):
        before = [self.task.nodes, self.task.leaves, self.task.table.rows, self.task.wish.rows]
        self.refused('000')
        list(obstacles(self.task))
        self.assertEqual([self.task.nodes, self.task.leaves, self.task.table.rows, self.task.wish.rows], before)
