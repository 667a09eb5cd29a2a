"""Points 2, 20 and 21: which objects are safe sequences."""

import itertools
import unittest

from keptroutes.sequences import changes, is_safe
from keptroutes.tables import Table
from tests.reference import all_tables, changes_of, is_safe_by_search
from tests.samples import (
    NO_STRINGS, NO_TARGETS, TARGETS, addresses, beside, chances, just_prefixes, kept_as_it_was, nested, same, some_pairs,
    some_table_rows, wrong_prefixes,
)


class SafeTest(unittest.TestCase):
    def asked(self, old, new, thing):
        """Return what is_safe says, which must be a bool, and check that everything stays."""
        before = [old.rows, new.rows]
        found = kept_as_it_was(self, thing, lambda: is_safe(old, new, thing))
        self.assertIs(type(found), bool)
        self.assertTrue(same([old.rows, new.rows], before))
        return found

    def unsafe(self, old, new, thing):
        with self.subTest(old=old.rows, new=new.rows, thing=repr(thing)[:80]):
            self.assertIs(self.asked(old, new, thing), False)


class OrderTest(SafeTest):
    """All orders of the changes, tried one by one."""

    def check(self, width, old, new, most=5):
        """Check all orders of so many changes, and return how many are safe and how many are not."""
        found = changes_of(old, new)
        if len(found) > most:
            return [0, 0]
        met = [0, 0]
        for order in itertools.permutations(found):
            safe = is_safe_by_search(old, new, order, addresses(width))
            with self.subTest(width=width, old=old, new=new, order=order):
                self.assertIs(self.asked(Table(width, old), Table(width, new), list(order)), safe)
                self.unsafe(Table(width, old), Table(width, new), order)
            met[safe] += 1
        return met

    def test_width_1(self):
        tables = all_tables(1, 'ab')
        met = [self.check(1, old, new) for old, new in itertools.product(tables, tables)]
        self.assertGreater(sum(safe for _, safe in met), sum(unsafe for unsafe, _ in met))
        self.assertGreater(sum(unsafe for unsafe, _ in met), 100)

    def test_widths_2_and_3(self):
        met = [0, 0]
        for chance in chances(45):
            for width in (2, 3):
                for old, new in some_pairs(chance, width, 4, 'abc'):
                    unsafe, safe = self.check(width, old, new, 4)
                    met = [met[0] + unsafe, met[1] + safe]
        self.assertGreater(min(met), 1000)

    def test_some_orders_of_many_changes(self):
        met = [0, 0]
        for chance in chances(40):
            for width in (3, 5):
                old, new = [some_table_rows(chance, width, 7, 'abcd') for _ in range(2)]
                order = changes_of(old, new)
                for _ in range(4):
                    # One change takes another place, so that some orders stay safe.
                    if order:
                        order.insert(chance.randrange(len(order)), order.pop(chance.randrange(len(order))))
                    safe = is_safe_by_search(old, new, order, addresses(width))
                    self.assertIs(self.asked(Table(width, old), Table(width, new), order), safe)
                    met[safe] += 1
        self.assertGreater(min(met), 40)

    def test_width_32(self):
        path = '01' * 16
        met = [0, 0]
        for step in (2, 3, 7):
            old = {path[:length]: TARGETS[length % 10] for length in range(0, 33, step)}
            new = {path[:length]: TARGETS[length % 9] for length in range(1, 33, step)}
            new.update({path[:length]: 'q' for length in range(0, 33, 2 * step)})
            found = changes_of(old, new)
            for place in range(len(found) - 1):
                order = found[:place] + [found[place + 1], found[place]] + found[place + 2:]
                safe = is_safe_by_search(old, new, order, beside(32, list(old) + list(new)))
                self.assertIs(self.asked(Table(32, old), Table(32, new), order), safe)
                met[safe] += 1
        self.assertGreater(min(met), 5)

    def test_independent_changes_in_any_order(self):
        old = Table.of(32, ('00', 'a'), ('01' + '0' * 30, 'b'))
        new = Table.of(32, ('10', 'a'), ('01' + '0' * 30, 'c'), ('1' * 32, 'd'))
        orders = list(itertools.permutations(changes(old, new)))
        self.assertEqual(len(orders), 24)
        for order in orders:
            self.assertIs(self.asked(old, new, list(order)), True)


class OtherListsTest(SafeTest):
    """Lists that are no sequences, made from safe ones."""

    def pairs(self):
        for chance in chances(12):
            for width in (1, 2, 4, 32):
                for old, new in some_pairs(chance, width, 5, 'abc'):
                    yield chance, Table(width, old), Table(width, new)
        for chance in chances(1):
            rows = [{prefix: chance.choice(TARGETS) for prefix in just_prefixes(chance, 32, 45)} for _ in range(2)]
            yield chance, Table(32, rows[0]), Table(32, rows[1])

    def test_a_change_left_out_or_twice(self):
        for _, old, new in self.pairs():
            found = changes(old, new)
            for place, change in enumerate(found):
                less = found[:place] + found[place + 1:]
                self.unsafe(old, new, less)
                self.unsafe(old, new, found + [change])
                self.unsafe(old, new, [change] + found)
                self.unsafe(old, new, found[:place] + [change] + found[place:])
                # One change stands twice, another one is missing.
                for other in less[:2] + less[-2:]:
                    self.unsafe(old, new, found[:place] + [other] + found[place + 1:])
            if found:
                self.unsafe(old, new, [])

    def test_another_target_or_prefix(self):
        for _, old, new in self.pairs():
            found = changes(old, new)
            for place, (prefix, target) in list(enumerate(found))[:8]:
                ahead, behind = found[:place], found[place + 1:]
                for other in (None, 'a', 'b', 'c', 'q', old.rows.get(prefix)):
                    if other != target:
                        self.unsafe(old, new, ahead + [(prefix, other)] + behind)
                for other in ('', '0', '1', prefix[:-1], prefix + '0', prefix[:-1] + '2', '1' * 32):
                    if other != prefix:
                        self.unsafe(old, new, ahead + [(other, target)] + behind)

    def test_needless_changes(self):
        for chance, old, new in self.pairs():
            found = changes(old, new)
            kept = [(prefix, target) for prefix, target in old.rows.items() if new.rows.get(prefix) == target]
            absent = [(prefix, None) for prefix in ('', '0', '1', '1' * old.width)
                      if prefix not in old.rows and prefix not in new.rows]
            for needless in kept[:3] + absent:
                for place in {0, len(found), chance.randint(0, len(found))}:
                    self.unsafe(old, new, found[:place] + [needless] + found[place:])

    def test_a_change_of_the_same_prefix_ahead(self):
        for _, old, new in self.pairs():
            found = changes(old, new)
            for prefix, target in found[:6]:
                for other in {None, 'a', 'q', target, old.rows.get(prefix)}:
                    self.unsafe(old, new, [(prefix, other)] + found)
            for prefix, target in list(old.rows.items())[:3]:
                if new.rows.get(prefix) == target:
                    # Away and back again.
                    self.unsafe(old, new, [(prefix, 'q')] + found + [(prefix, target)])
                    self.unsafe(old, new, [(prefix, None), (prefix, target)] + found)

    def test_other_forms(self):
        for _, old, new in self.pairs():
            found = changes(old, new)
            self.unsafe(old, new, tuple(found))
            self.unsafe(old, new, dict(found))
            self.unsafe(old, new, [found])
            for place, (prefix, target) in list(enumerate(found))[:4]:
                for other in (
                    [prefix, target], (prefix,), (prefix, target, None), (target, prefix), ((prefix, target),),
                    {prefix: target}, (prefix, [target]), ([prefix], target), ((prefix,), target),
                    (prefix, (target,)), (prefix, {}), ({}, target), prefix, target, None, (), [],
                ):
                    if not same(other, (prefix, target)):
                        self.unsafe(old, new, found[:place] + [other] + found[place + 1:])

    def test_no_changes_at_all(self):
        for rows in ({}, {'': 'a', '01': 'b'}):
            for width in (2, 32):
                table = Table(width, rows)
                self.assertIs(self.asked(table, Table(width, dict(rows)), []), True)
                for thing in ([('', 'a')], [('', None)], [()], [[]], [None], [('1', None)], [('01', 'b')]):
                    self.unsafe(table, table, thing)


class AnyObjectTest(SafeTest):
    def setUp(self):
        self.old = Table.of(3, ('', 'a'), ('1', 'b'))
        self.new = Table.of(3, ('', 'c'), ('10', 'a'))
        self.found = [('10', 'a'), ('', 'c'), ('1', None)]
        self.assertIs(is_safe(self.old, self.new, self.found), True)

    def test_objects_that_are_no_list_of_changes(self):
        table = Table.of(3, ('0', 'a'))
        for thing in NO_STRINGS + ('', '0', 'a', '10 a', nested(20), ['0'] * 4999, [('0', 'a')] * 1600):
            self.unsafe(self.old, self.new, thing)
            if thing != [] or not isinstance(thing, list):
                self.unsafe(table, table, thing)

    def test_objects_of_all_kinds_in_place_of_a_change(self):
        for thing in NO_STRINGS + ('', '0', 'a', nested(18)):
            for place in range(3):
                self.unsafe(self.old, self.new, self.found[:place] + [thing] + self.found[place + 1:])
                self.unsafe(self.old, self.new, self.found[:place] + [thing] + self.found[place:])

    def test_prefixes_that_are_none(self):
        for prefix in wrong_prefixes(3):
            for place, (_, target) in enumerate(self.found):
                self.unsafe(self.old, self.new, self.found[:place] + [(prefix, target)] + self.found[place + 1:])
                self.unsafe(self.old, self.new, self.found[:place] + [(prefix, target)] + self.found[place:])

    def test_targets_that_are_none(self):
        for target in NO_TARGETS:
            for place, (prefix, right) in enumerate(self.found):
                if target is not None or right is not None:
                    self.unsafe(self.old, self.new, self.found[:place] + [(prefix, target)] + self.found[place + 1:])
                self.unsafe(self.old, self.new, self.found[:place] + [(prefix, target)] + self.found[place:])
