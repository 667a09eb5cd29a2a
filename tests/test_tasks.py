"""Points 2, 5, 6 and 14: tasks, costs and solutions."""

import itertools
import unittest

from keptroutes.errors import InvalidPair
from keptroutes.tables import Table
from keptroutes.tasks import Prices, Task, cost, is_solution
from keptroutes.wishes import Wish
from tests.made import large_parts, prices_of, some_parts
from tests.reference import choices_of, cost_of, failures, leaves_of, nodes_of
from tests.samples import addresses, beside, chances, prefixes, raises, some_table_rows, some_wish_rows


class ExampleTest(unittest.TestCase):
    def test_example_of_the_document(self):
        prices = Prices(removing=5).with_row('1', 3)
        task = Task(Table.of(2, ('', 'a'), ('1', 'b')), Wish(2, {'10': ['c']}), prices)
        self.assertEqual([task.nodes, task.leaves, task.choices], [
            ['', '0', '1', '10', '11'], ['0', '10', '11'], [None, 'a', 'b', 'c']])
        found = [cost(task, Table.of(2, ('1', 'c'))), cost(task, Table.of(2, ('', 'a'), ('1', 'b'), ('10', 'c')))]
        self.assertEqual(found, [8, 1])
        self.assertIs(is_solution(task, Table.of(2, ('1', 'b'))), False)
        self.assertEqual(task.prices.single, {'1': 3})


class NodesTest(unittest.TestCase):
    def check(self, width, table, wish):
        task = Task(Table(width, table), Wish(width, wish), Prices())
        nodes = nodes_of(width, table, wish)
        with self.subTest(width=width, table=table, wish=wish):
            self.assertEqual(task.nodes, nodes)
            self.assertEqual(task.leaves, leaves_of(nodes))
            self.assertEqual(task.choices, choices_of(table, wish))

    def test_all_sets_of_prefixes_of_width_2(self):
        every = prefixes(2)
        sets = [some for many in range(len(every) + 1) for some in itertools.combinations(every, many)]
        for table in sets:
            self.check(2, {prefix: 'a' for prefix in table}, {})
            self.check(2, {}, {prefix: ['b'] for prefix in table})
        for table, wish in itertools.product(sets[::5], sets[::7]):
            self.check(2, {prefix: 'a' for prefix in table}, {prefix: [] for prefix in wish})

    def test_widths_from_1_to_32(self):
        for width in range(1, 33):
            self.check(width, {}, {})
            self.check(width, {'1' * width: 'a'}, {})
            self.check(width, {}, {'1' * width: ['a']})
            self.check(width, {'1' * (width - 1): 'a'}, {'0': []})
            for chance in chances(8):
                for many in (1, 3, 8):
                    table = some_table_rows(chance, width, many, 'abcd')
                    self.check(width, table, some_wish_rows(chance, width, many, 'bcde'))

    def test_both_longer_prefixes_of_rows_of_the_table_only(self):
        task = Task(Table.of(3, ('0', 'a')), Wish(3, {'1': ['a']}), Prices())
        self.assertEqual([task.nodes, task.leaves], [['', '0', '00', '01', '1'], ['00', '01', '1']])
        task = Task(Table.of(3, ('011', 'a')), Wish(3, {}), Prices())
        self.assertEqual(task.leaves, ['00', '010', '011', '1'])
        task = Task(Table.of(3, ('', 'a')), Wish(3, {'': []}), Prices())
        self.assertEqual(task.nodes, ['', '0', '1'])
        task = Task(Table(3, {}), Wish(3, {'': []}), Prices())
        self.assertEqual([task.nodes, task.leaves], [[''], ['']])

    def test_leaves_cover_each_address_once(self):
        for chance in chances(20):
            task = some_parts(chance, 5).task
            for address in addresses(5):
                self.assertEqual(len([leaf for leaf in task.leaves if address.startswith(leaf)]), 1)

    def test_choices(self):
        task = Task(Table.of(1, ('0', 'z'), ('1', 'b')), Wish(1, {'': ['c', 'ab', None], '0': ['b']}), Prices())
        self.assertEqual(task.choices, [None, 'ab', 'b', 'c', 'z'])
        self.assertEqual(Task(Table(1, {}), Wish(1, {'': [None]}), Prices()).choices, [None])
        self.assertEqual(Task(Table(1, {}), Wish(1, {}), Prices()).choices, [None])


class PartsTest(unittest.TestCase):
    def test_parts(self):
        table, wish = Table.of(2, ('1', 'a')), Wish(2, {'0': ['b', None]})
        task = Task(table, wish, Prices(adding=5, changing=6, removing=7).with_row('1', None))
        self.assertEqual([task.table, task.wish], [table, wish])
        self.assertEqual([type(task.table), type(task.wish), type(task.prices)], [Table, Wish, Prices])
        found = [task.prices.adding, task.prices.changing, task.prices.removing, task.prices.single]
        self.assertEqual(found, [5, 6, 7, {'1': None}])

    def test_lists_are_new(self):
        task = Task(Table.of(2, ('1', 'a')), Wish(2, {'0': ['b']}), Prices())
        before = [task.nodes, task.leaves, task.choices]
        for asked in (lambda: task.nodes, lambda: task.leaves, lambda: task.choices):
            self.assertIs(type(asked()), list)
            self.assertIsNot(asked(), asked())
            asked().append('0')
            asked().clear()
        self.assertEqual([task.nodes, task.leaves, task.choices], before)
        self.assertEqual(cost(task, Table(2, {})), 1)

    def test_arguments_are_copied(self):
        rows, allowed = {'1': 'a'}, ['b']
        wishes = {'0': allowed}
        task = Task(Table(2, rows), Wish(2, wishes), Prices())
        rows['11'] = 'c'
        wishes['01'] = ['d']
        allowed.append('e')
        task.table.rows['10'] = 'f'
        task.wish.rows.clear()
        task.prices.single['1'] = None
        self.assertEqual([task.nodes, task.choices], [['', '0', '1', '10', '11'], [None, 'a', 'b']])
        self.assertEqual([task.table.rows, task.wish.rows, task.prices.single], [{'1': 'a'}, {'0': ('b',)}, {}])

    def test_tasks_that_share_parts(self):
        table, wish, prices = Table.of(2, ('1', 'a')), Wish(2, {'0': ['b']}), Prices(adding=5)
        one = Task(table, wish, prices)
        two = Task(table, Wish(2, {'11': ['c']}), prices.with_row('1', None))
        three = Task(table.with_row('0', 'd'), wish, prices)
        self.assertEqual(one.nodes, ['', '0', '1', '10', '11'])
        self.assertEqual(two.nodes, ['', '0', '1', '10', '11'])
        self.assertEqual(three.nodes, ['', '0', '00', '01', '1', '10', '11'])
        self.assertEqual([one.choices, two.choices, three.choices], [
            [None, 'a', 'b'], [None, 'a', 'c'], [None, 'a', 'b', 'd']])
        empty = Table(2, {})
        self.assertEqual([cost(one, empty), cost(two, empty), cost(three, empty)], [1, None, 2])

    def test_other_widths(self):
        for one, two in itertools.product((1, 2, 3, 31, 32), repeat=2):
            if one != two:
                for rows in ({}, {'': 'a'}):
                    raises(self, InvalidPair, lambda: Task(Table(one, rows), Wish(two, {}), Prices()))
                raises(self, InvalidPair, lambda: Task(Table(one, {}), Wish(two, {'': ['a']}), Prices()))

    def test_arguments_by_name(self):
        table, wish, prices = Table.of(1, ('1', 'a')), Wish(1, {'0': ['b']}), Prices(removing=3)
        task = Task(prices=prices, wish=wish, table=table)
        self.assertEqual([task.table, task.wish, task.prices.removing], [table, wish, 3])
        self.assertEqual(cost(table=Table(1, {}), task=task), 3)
        self.assertIs(is_solution(table=Table.of(1, ('0', 'b')), task=task), True)
        raises(self, InvalidPair, lambda: Task(prices=prices, wish=wish, table=Table(2, {})))


class CostTest(unittest.TestCase):
    def setUp(self):
        prices = Prices(adding=10, changing=20, removing=40)
        prices = prices.with_row('0', 3).with_row('11', None).with_row('01', None).with_row('00', 99)
        self.table = Table.of(2, ('', 'a'), ('0', 'b'), ('1', 'c'), ('11', 'd'))
        self.task = Task(self.table, Wish(2, {}), prices)

    def test_single_changes(self):
        table = self.table
        for new, expected in (
            (table, 0), (table.with_row('10', 'a'), 10), (table.with_row('', 'z'), 20), (table.without(''), 40),
            (table.with_row('1', 'a'), 20), (table.without('1'), 40),
            # A price of its own replaces those for changing and removing.
            (table.with_row('0', 'a'), 3), (table.without('0'), 3),
            # A locked row stays as it is.
            (table.with_row('11', 'd'), 0), (table.with_row('11', 'a'), None), (table.without('11'), None),
            # Prefixes that the old table lacks are added for the price of adding, whatever price they have.
            (table.with_row('01', 'a'), 10), (table.with_row('00', 'a'), 10),
        ):
            with self.subTest(new.rows):
                self.assertEqual(cost(self.task, new), expected)

    def test_several_changes(self):
        self.assertEqual(cost(self.task, Table.of(2, ('11', 'd'))), 83)
        self.assertEqual(cost(self.task, Table.of(2, ('', 'b'), ('0', 'a'), ('10', 'c'), ('11', 'd'), ('01', 'a'))), 83)
        self.assertIsNone(cost(self.task, Table(2, {})))
        self.assertIsNone(cost(self.task, Table.of(2, ('', 'a'), ('0', 'b'), ('1', 'c'), ('11', 'c'), ('00', 'd'))))

    def test_changing_where_removing_and_adding_cost_less(self):
        task = Task(Table.of(1, ('', 'a')), Wish(1, {}), Prices(adding=1, changing=900, removing=1))
        self.assertEqual(cost(task, Table.of(1, ('', 'b'))), 900)

    def test_the_wish_does_not_count(self):
        table = Table.of(1, ('', 'a'))
        self.assertEqual(cost(Task(table, Wish(1, {'': []}), Prices()), table), 0)

    def test_many_tables(self):
        for chance in chances(60):
            for width in (1, 2, 5, 31, 32):
                parts = some_parts(chance, width, 6)
                before = [parts.task.table.rows, parts.task.prices.single]
                self.assertEqual(cost(parts.task, Table(width, parts.table)), 0)
                for _ in range(4):
                    new = {prefix: chance.choice((target, target, 'c')) for prefix, target in parts.table.items()}
                    new = {prefix: new[prefix] for prefix in new if chance.random() < 0.8}
                    new.update(some_table_rows(chance, width, 2, 'ab'))
                    with self.subTest(parts=parts, new=new):
                        expected = cost_of(parts.table, new, parts.prices, parts.single)
                        self.assertEqual(cost(parts.task, Table(width, new)), expected)
                self.assertEqual([parts.task.table.rows, parts.task.prices.single], before)

    def test_own_prices_of_rows_that_the_table_lacks(self):
        for price in (None, 1, 999):
            one = Task(Table.of(2, ('1', 'a')), Wish(2, {}), Prices(adding=6))
            two = Task(Table.of(2, ('1', 'a')), Wish(2, {}), Prices(adding=6).with_row('0', price).with_row('', price))
            for new in (Table(2, {}), Table.of(2, ('0', 'a')), Table.of(2, ('', 'b'), ('0', 'a'), ('1', 'a'))):
                self.assertEqual(cost(one, new), cost(two, new))
            self.assertEqual(one.nodes, two.nodes)


class SolutionTest(unittest.TestCase):
    def check(self, parts, new, some):
        admitted = cost_of(parts.table, new, parts.prices, parts.single) is not None
        fulfilled = failures(parts.wish, new, some) == []
        with self.subTest(parts=parts, new=new):
            self.assertIs(is_solution(parts.task, Table(parts.width, new)), admitted and fulfilled)

    def test_all_addresses_of_small_widths(self):
        for chance in chances(100):
            for width in (1, 2, 3):
                parts = some_parts(chance, width, 3, 2)
                self.check(parts, parts.table, addresses(width))
                for many in (0, 1, 3):
                    self.check(parts, some_table_rows(chance, width, many, 'ab'), addresses(width))
                    new = {**parts.table, **some_table_rows(chance, width, many, 'ab')}
                    self.check(parts, new, addresses(width))

    def test_addresses_beside_each_prefix_of_width_32(self):
        for chance in chances(20):
            parts = large_parts(chance, 32, 10)
            for new in (parts.table, {}, {**parts.table, **some_table_rows(chance, 32, 3, 'ab')}):
                self.check(parts, new, beside(32, list(parts.wish) + list(new)))
            kept = {prefix: [target, None] for prefix, target in parts.table.items()}
            self.check(parts.changed(wish=kept), parts.table, beside(32, kept))

    def test_each_reason_alone(self):
        table = Table.of(2, ('1', 'b'))
        task = Task(table, Wish(2, {'1': ['b'], '0': [None, 'a']}), prices_of((1, 1, 1), {'1': None}))
        self.assertIs(is_solution(task, table), True)
        self.assertIs(is_solution(task, table.with_row('0', 'a')), True)
        self.assertIs(is_solution(task, table.with_row('0', 'b')), False)
        # This one fulfils the wish, but the locked row is gone.
        self.assertIs(is_solution(task, Table.of(2, ('10', 'b'), ('11', 'b'))), False)

    def test_other_widths(self):
        task = Task(Table.of(2, ('1', 'b')), Wish(2, {'': []}), Prices().with_row('1', None))
        for width in (1, 3, 32):
            for rows in ({}, {'1': 'b'}):
                raises(self, InvalidPair, lambda: cost(task, Table(width, rows)))
                raises(self, InvalidPair, lambda: is_solution(task, Table(width, rows)))
