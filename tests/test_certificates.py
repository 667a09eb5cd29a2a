"""Points 2, 17 and 18: certificates."""

import copy
import unittest

from keptroutes.certificates import certificate, check_certificate
from keptroutes.cheapest import least_cost
from keptroutes.tables import Table
from keptroutes.tasks import Prices, Task
from keptroutes.wishes import Wish
from tests.made import Parts, large_parts, some_parts
from tests.reference import keeps_the_rules
from tests.samples import INTEGERS, NO_STRINGS, NO_TEXTS, chances, same


class AskingTest(unittest.TestCase):
    def supports(self, task, thing, bar):
        """Return the answer of check_certificate, which must be a bool and leave its arguments as they are."""
        before = copy.deepcopy(thing)
        parts = [task.table.rows, task.wish.rows, task.prices.single, task.nodes, task.choices]
        answer = check_certificate(task, thing, bar)
        self.assertIs(type(answer), bool)
        self.assertTrue(same(thing, before))
        self.assertEqual(parts, [task.table.rows, task.wish.rows, task.prices.single, task.nodes, task.choices])
        return answer

    def check_bars(self, task, thing, first):
        """Check all bars beside the first entry of the empty prefix of a certificate."""
        if first is None:
            for bar in (None, 0, 1, 999, 10 ** 39, -1, -10 ** 39):
                self.assertIs(self.supports(task, thing, bar), True)
        else:
            for bar in (first, first - 1, 0, -1, -10 ** 39):
                self.assertIs(self.supports(task, thing, bar), True)
            for bar in (None, first + 1, first + 1000, 10 ** 39):
                self.assertIs(self.supports(task, thing, bar), False)


class ExampleTest(AskingTest):
    def test_example_of_the_document(self):
        task = Task(Table(1, {}), Wish(1, {'': ['a']}), Prices(adding=4))
        self.assertIs(self.supports(task, {'': [4, 0]}, 4), True)
        found = [check_certificate(task, {'': [4, 0]}, 5), check_certificate(task, {'': [5, 0]}, 4)]
        self.assertEqual(found, [False, False])


class CertificateTest(AskingTest):
    def check(self, parts):
        task = parts.task
        thing = certificate(task)
        with self.subTest(parts=parts):
            self.assertIs(type(thing), dict)
            self.assertEqual(list(thing), task.nodes)
            self.assertTrue(all(type(entries) is list for entries in thing.values()))
            self.assertEqual({len(entries) for entries in thing.values()}, {len(task.choices)})
            self.assertEqual(len({id(entries) for entries in thing.values()}), len(thing))
            flat = [entry for entries in thing.values() for entry in entries]
            self.assertTrue(all(entry is None or type(entry) is int and entry >= 0 for entry in flat))
            self.assertTrue(keeps_the_rules(task, thing))
            self.assertEqual(thing[''][0], least_cost(task))
            self.check_bars(task, thing, thing[''][0])

    def test_small_widths(self):
        for chance in chances(60):
            for width in (1, 2, 3):
                self.check(some_parts(chance, width))

    def test_all_widths(self):
        for width in range(1, 33):
            for chance in chances(2):
                self.check(some_parts(chance, width, 3, 2))

    def test_known_certificates(self):
        task = Task(Table(1, {}), Wish(1, {'': []}), Prices())
        self.assertEqual(certificate(task)[''][0], None)
        task = Task(Table(1, {'': 'a'}), Wish(1, {'': ['b']}), Prices(adding=9, changing=7))
        self.assertEqual(certificate(task)[''][0], 7)
        self.assertEqual(len(certificate(task)['0']), 3)

    def test_no_targets_at_all(self):
        self.assertEqual(certificate(Task(Table(1, {}), Wish(1, {}), Prices())), {'': [0]})
        self.check(Parts(2, {}, {}, (1, 1, 1), {}))
        self.check(Parts(2, {}, {'': [None], '01': [None]}, (1, 1, 1), {}))
        self.check(Parts(2, {}, {'': [None], '01': []}, (1, 1, 1), {}))

    def test_lists_are_new(self):
        for chance in chances(20):
            task = some_parts(chance, 3).task
            first = certificate(task)
            before = copy.deepcopy(first)
            for entries in first.values():
                entries[0] = 'changed'
                entries.append(None)
            first.clear()
            self.assertTrue(same(certificate(task), before))

    def test_width_32_with_forty_rows(self):
        for chance in chances(2):
            parts = large_parts(chance, 32, 45)
            task = parts.task
            for least in (least_cost(task), least_cost(parts.changed(wish={**parts.wish, max(parts.wish): []}).task)):
                thing = certificate(task)
                self.assertEqual([list(thing), thing[''][0]], [task.nodes, least])
                self.check_bars(task, thing, least)
                thing[''][0] = 10 ** 39
                self.assertIs(self.supports(task, thing, 0), least is None)
                task = parts.changed(wish={**parts.wish, max(parts.wish): []}).task

    def test_arguments_by_name(self):
        task = Task(Table(1, {}), Wish(1, {'': ['a']}), Prices(adding=4))
        thing = certificate(task=task)
        self.assertEqual(thing, certificate(task))
        self.assertIs(check_certificate(bar=4, thing=thing, task=task), True)
        self.assertIs(check_certificate(task, bar=5, thing=thing), False)


class EntryTest(AskingTest):
    """Certificates in which entries are replaced."""

    def with_entry(self, thing, node, place, entry):
        changed = copy.deepcopy(thing)
        changed[node][place] = entry
        return changed

    def check(self, task, thing):
        first = thing[''][0]
        kept = keeps_the_rules(task, thing)
        with self.subTest(table=task.table.rows, wish=task.wish.rows, thing=thing):
            self.assertIs(self.supports(task, thing, -1), kept)
            self.assertIs(self.supports(task, thing, None), kept and first is None)
            for bar in (0, 1, 2, 5, 900):
                self.assertIs(self.supports(task, thing, bar), kept and (first is None or first >= bar))

    def each_entry(self):
        """Yield tasks and certificates of theirs, and each place in these."""
        for chance in chances(25):
            for width in (1, 2, 4):
                task = some_parts(chance, width, 3, 3).task
                thing = certificate(task)
                for node in task.nodes:
                    for place, entry in enumerate(thing[node]):
                        yield task, thing, node, place, entry

    def test_raised_entries(self):
        for task, thing, node, place, entry in self.each_entry():
            if entry is not None:
                for raised in (entry + 1, 10 ** 39, 10 ** 60, None):
                    self.check(task, self.with_entry(thing, node, place, raised))

    def test_lowered_entries(self):
        for task, thing, node, place, entry in self.each_entry():
            for lowered in (0, 1, 10 ** 39) if entry is None else (0, entry // 2, max(0, entry - 1)):
                self.check(task, self.with_entry(thing, node, place, lowered))

    def test_several_entries(self):
        for chance in chances(120):
            task = some_parts(chance, 3, 3, 3).task
            thing = certificate(task)
            for _ in range(chance.randint(1, 8)):
                entries = thing[chance.choice(task.nodes)]
                entries[chance.randrange(len(entries))] = chance.choice((0, 0, 1, 2, 3, None))
            self.check(task, thing)

    def test_only_zeros_support_no_cost(self):
        for chance in chances(30):
            task = some_parts(chance, 3).task
            thing = {node: [0 for _ in task.choices] for node in task.nodes}
            self.check_bars(task, thing, 0)

    def test_none_only_where_every_option_is_impossible(self):
        task = Task(Table(1, {'0': 'a'}), Wish(1, {'0': ['b'], '1': [None]}), Prices(changing=3).with_row('0', None))
        nothing = {node: [None, None, None] for node in task.nodes}
        self.assertIs(self.supports(task, nothing, None), False)
        self.assertIs(self.supports(task, {**nothing, '1': [1, None, None]}, None), False)
        self.assertIs(self.supports(task, {**nothing, '1': [0, None, None]}, None), True)
        self.assertIs(self.supports(task, {**nothing, '1': [0, 1, 0]}, None), True)
        self.assertIs(self.supports(task, {**nothing, '1': [0, None, None], '0': [3, 3, 3]}, 3), False)
        self.assertIs(self.supports(task, {'': [3, 3, 3], '1': [0, None, None], '0': [3, 3, 3]}, 3), True)

    def test_large_integers_are_less_than_none(self):
        task = Task(Table(1, {}), Wish(1, {'': []}), Prices())
        for entry in (0, 999, 10 ** 39, 10 ** 60):
            self.assertIs(self.supports(task, {'': [entry]}, entry), True)
            self.assertIs(self.supports(task, {'': [entry]}, entry + 1), False)
            self.assertIs(self.supports(task, {'': [entry]}, None), False)
        task = Task(Table(1, {'1': 'a'}), Wish(1, {'': []}), Prices())
        for entry in (0, 10 ** 39, 10 ** 60):
            thing = {'': [2 * entry, entry], '0': [entry, entry], '1': [entry, entry]}
            self.assertIs(self.supports(task, thing, 2 * entry), True)
            self.assertIs(self.supports(task, {**thing, '': [None, entry]}, 0), False)
            self.assertIs(self.supports(task, {**thing, '0': [None, None]}, 0), True)
            self.assertIs(self.supports(task, {**thing, '0': [None, None], '': [None, None]}, None), True)


class FormTest(AskingTest):
    def setUp(self):
        wish = Wish(2, {'0': ['b', None], '11': [None], '10': ['a', 'b']})
        self.task = Task(Table.of(2, ('', 'a'), ('01', 'c')), wish, Prices(adding=3, changing=7, removing=2))
        self.thing = certificate(self.task)
        self.least = least_cost(self.task)

    def refused(self, thing):
        with self.subTest(repr(thing)[:90]):
            for bar in (self.least, 0, -1, None):
                self.assertIs(self.supports(self.task, thing, bar), False)

    def test_keys_in_any_order(self):
        self.assertGreater(self.least, 0)
        for order in (list(self.thing), list(self.thing)[::-1], sorted(self.thing, key=len), list(self.thing)[3:]):
            thing = {node: self.thing[node] for node in order}
            thing.update(self.thing)
            self.assertIs(self.supports(self.task, thing, self.least), True)
            self.assertIs(self.supports(self.task, thing, self.least + 1), False)

    def test_a_list_that_stands_twice(self):
        task = Task(Table(1, {'': 'a'}), Wish(1, {}), Prices())
        entries = [0, 0]
        self.assertIs(self.supports(task, {'': entries, '0': entries, '1': entries}, 0), True)

    def test_a_node_left_out(self):
        for node in self.thing:
            self.refused({kept: self.thing[kept] for kept in self.thing if kept != node})

    def test_another_key(self):
        for key in ('000', '111', '2', ' ', '*', 'a', '0 ', 0, 1, 10, -1):
            self.assertNotIn(key, self.thing)
            self.refused({**self.thing, key: [0, 0, 0, 0]})
            for node in self.thing:
                self.refused({key if kept == node else kept: self.thing[kept] for kept in self.thing})

    def test_lists_of_other_lengths(self):
        for node, entries in self.thing.items():
            for other in ([], entries[1:], entries[:-1], entries + [0], entries + [None], entries * 2, [0] * 4999):
                self.refused({**self.thing, node: other})

    def test_objects_in_place_of_a_list(self):
        for node, entries in self.thing.items():
            for other in NO_TEXTS + INTEGERS + (tuple(entries), dict(enumerate(entries)), '0000', 'abcd', [entries]):
                self.refused({**self.thing, node: other})

    def test_objects_in_place_of_an_entry(self):
        wrong = (True, False, '', '0', '1', 'a', 'None', -1, -10 ** 39, [], [0], (), (0,), {}, {'0': 0}, [None], [[0]])
        for node, entries in self.thing.items():
            for place in range(len(entries)):
                for entry in wrong:
                    self.refused({**self.thing, node: entries[:place] + [entry] + entries[place + 1:]})

    def test_objects_that_are_no_dict(self):
        for thing in NO_STRINGS + ('', '0', list(self.thing.items()), tuple(self.thing.items()), list(self.thing)):
            self.refused(thing)

    def test_certificates_of_other_tasks(self):
        other = Task(self.task.table, self.task.wish, Prices(adding=300, changing=700, removing=200))
        self.assertIs(self.supports(self.task, certificate(other), 0), False)
        self.assertIs(self.supports(other, self.thing, self.least), True)
        self.refused(certificate(Task(self.task.table, Wish(2, {}), Prices())))
        self.refused(certificate(Task(Table(3, {}), Wish(3, {}), Prices())))
