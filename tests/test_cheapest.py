"""Points 2, 5, 7 and 16: least costs and cheapest solutions."""

import unittest

from keptroutes.cheapest import cheapest, least_cost
from keptroutes.errors import NoSolution
from keptroutes.obstacles import first_obstacle
from keptroutes.tables import Table
from keptroutes.tasks import Prices, Task, cost, is_solution
from keptroutes.wishes import Wish
from tests.made import PRICE_CHOICES, Parts, large_parts, some_parts
from tests.reference import allowed_at, all_tables, cost_of, failures, target_at
from tests.samples import addresses, beside, chances, some_table_rows, some_wish_rows


class ExampleTest(unittest.TestCase):
    def test_example_of_the_document(self):
        wish = Wish(2, {'': ['a', 'b'], '11': ['b'], '10': ['b']})
        task = Task(Table.of(2, ('', 'a')), wish, Prices(changing=3))
        price, table = cheapest(task)
        self.assertEqual([price, table.rows], [1, {'': 'a', '1': 'b'}])
        self.assertIs(least_cost(Task(Table(2, {}), Wish(2, {'0': []}), Prices())), None)


class CheckedTest(unittest.TestCase):
    def check(self, parts):
        """Check that the two functions and the obstacles agree, and return the least cost."""
        task = parts.task
        least = least_cost(task)
        first = first_obstacle(task)
        with self.subTest(parts=parts):
            self.assertIs(least is None, first is not None)
            if least is None:
                with self.assertRaises(NoSolution) as caught:
                    cheapest(task)
                self.assertIs(caught.exception.__class__, NoSolution)
                self.assertEqual(caught.exception.leaf, first)
            else:
                self.assertIs(type(least), int)
                found = cheapest(task)
                self.assertIs(type(found), tuple)
                price, table = found
                self.assertIs(type(table), Table)
                self.assertEqual([price, table.width, cost(task, table)], [least, parts.width, least])
                self.assertEqual(cost_of(parts.table, table.rows, parts.prices, parts.single), least)
                self.assertIs(is_solution(task, table), True)
                some = addresses(parts.width) if parts.width < 6 else beside(
                    parts.width, list(parts.wish) + list(table.rows))
                self.assertEqual(failures(parts.wish, table.rows, some), [])
            self.assertEqual([task.table.rows, task.prices.single], [parts.table, parts.single])
        return least


class AllTablesTest(CheckedTest):
    """All tables are tried one by one."""

    def tables(self, width):
        """Return all tables with two targets, each with the targets of all addresses."""
        return [(rows, [target_at(rows, address) for address in addresses(width)]) for rows in all_tables(width, 'ab')]

    def least_of_all(self, parts, tables):
        allowed = [allowed_at(parts.wish, address) for address in addresses(parts.width)]
        least = None
        for rows, meaning in tables:
            if all(some == 'any' or target in some for some, target in zip(allowed, meaning)):
                price = cost_of(parts.table, rows, parts.prices, parts.single)
                if price is not None and (least is None or price < least):
                    least = price
        return least

    def test_width_1(self):
        tables = self.tables(1)
        found = [self.compare(some_parts(chance, 1), tables) for chance in chances(400)]
        self.assertTrue(50 < found.count(None) < 350)

    def test_width_2(self):
        tables = self.tables(2)
        found = [self.compare(some_parts(chance, 2, 5, 3), tables) for chance in chances(200)]
        self.assertTrue(20 < found.count(None) < 180)

    def test_width_2_with_many_solutions(self):
        tables = self.tables(2)
        values = (['a'], ['b'], ['a', 'b'], [None, 'a'], [None, 'b'], [None], [None, 'a', 'b'])
        for chance in chances(150):
            parts = some_parts(chance, 2, 6, 0)
            single = {prefix: price or 4 for prefix, price in parts.single.items()}
            wish = {prefix: chance.choice(values) for prefix in some_wish_rows(chance, 2, 5, 'ab')}
            self.assertIsNotNone(self.compare(parts.changed(wish=wish, single=single), tables))

    def compare(self, parts, tables):
        least = self.check(parts)
        with self.subTest(parts=parts):
            self.assertEqual(least, self.least_of_all(parts, tables))
        return least


class LeastCostTest(CheckedTest):
    def least(self, width, table, wish, prices=(1, 1, 1), single=None):
        return self.check(Parts(width, table, wish, prices, single or {}))

    def test_a_table_that_fulfils_its_wish(self):
        for chance in chances(30):
            for width in (1, 2, 5, 31, 32):
                table = some_table_rows(chance, width, 8, 'abc')
                wish = {prefix: [None, target] for prefix, target in table.items()}
                single = {prefix: None for prefix in table if chance.random() < 0.5}
                self.assertEqual(self.least(width, table, wish, (999, 999, 999), single), 0)
                self.assertEqual(self.least(width, table, {}), 0)

    def test_one_row_that_must_change(self):
        for price in (1, 2, 500, 999):
            self.assertEqual(self.least(1, {}, {'': ['a']}, (price, 1, 1)), price)
            self.assertEqual(self.least(1, {'': 'b'}, {'': ['a']}, (999, price, 1)), price)
            self.assertEqual(self.least(1, {'': 'b'}, {'': [None]}, (1, 1, price)), price)
            self.assertEqual(self.least(1, {'': 'b'}, {'': ['a']}, (999, 999, 1), {'': price}), price)
            self.assertEqual(self.least(1, {'': 'b'}, {'': [None]}, (1, 1, 999), {'': price}), price)

    def test_changing_costs_its_price_even_if_adding_and_removing_cost_less(self):
        # Two longer rows, or the price of changing: the row cannot be removed and added again.
        self.assertEqual(self.least(1, {'': 'b'}, {'': ['a']}, (1, 900, 1)), 2)
        self.assertEqual(self.least(1, {'0': 'b'}, {'0': ['a']}, (1, 900, 1)), 2)
        self.assertEqual(self.least(1, {'': 'c', '0': 'b'}, {'0': ['a'], '1': ['c']}, (1, 900, 1)), 900)

    def test_a_locked_row_is_overruled_by_longer_ones(self):
        self.assertEqual(self.least(2, {'1': 'b'}, {'1': ['a']}, (5, 1, 1), {'1': None}), 10)
        self.assertEqual(self.least(32, {'1': 'b'}, {'1': ['a']}, (5, 1, 1), {'1': None}), 10)
        self.assertIsNone(self.least(1, {'1': 'b'}, {'1': ['a']}, (5, 1, 1), {'1': None}))

    def test_a_target_that_only_the_wish_has(self):
        self.assertEqual(self.least(3, {'': 'a'}, {'000': ['z']}, (2, 9, 9)), 2)
        self.assertEqual(self.least(3, {'': 'a'}, {'0': ['z'], '00': ['y'], '1': ['x', 'z']}, (2, 3, 9)), 5)

    def test_no_targets_at_all(self):
        self.assertEqual(self.least(2, {}, {}), 0)
        self.assertEqual(self.least(2, {}, {'': [None], '01': [None]}), 0)
        self.assertIsNone(self.least(2, {}, {'': [None], '01': []}))

    def test_all_targets_are_allowed_where_no_row_counts(self):
        self.assertEqual(self.least(3, {'0': 'a'}, {'1': ['b', 'c']}, (4, 1, 1)), 4)
        self.assertEqual(self.least(3, {'0': 'a', '1': 'a'}, {'00': ['b']}, (9, 4, 1)), 4)

    def test_many_tasks_of_all_widths(self):
        for width in range(1, 33):
            for chance in chances(12):
                self.check(some_parts(chance, width, 6, 4, 'abcd'))

    def test_the_first_obstacle_is_told(self):
        parts = Parts(3, {'1': 'a', '011': 'b'}, {'11': [None], '011': ['a'], '10': []}, (1, 1, 1), {
            '1': None, '011': None})
        self.assertIsNone(self.check(parts))
        with self.assertRaises(NoSolution) as caught:
            cheapest(task=parts.task)
        self.assertEqual(caught.exception.leaf, '011')

    def test_arguments_by_name(self):
        task = Task(Table(1, {}), Wish(1, {'': ['a']}), Prices(adding=4))
        self.assertEqual(least_cost(task=task), 4)
        price, table = cheapest(task=task)
        self.assertEqual([price, table.rows], [4, {'': 'a'}])


class FactsTest(CheckedTest):
    """What point 7 says of wishes that allow more, prices that fall and rows that are locked."""

    def not_more(self, one, two):
        """Check that the first of two least costs is not the greater one, where None is greater than all."""
        self.assertTrue(two is None or one is not None and one <= two, (one, two))

    def samples(self):
        for chance in chances(60):
            for width in (1, 2, 3, 32):
                yield chance, some_parts(chance, width, 5, 5, 'abc')

    def test_a_wish_that_allows_more(self):
        for chance, parts in self.samples():
            least = least_cost(parts.task)
            for prefix, allowed in parts.wish.items():
                more = [name for name in (None, 'a', 'b', 'c', 'z') if name not in allowed]
                wish = {**parts.wish, prefix: allowed + [chance.choice(more)]}
                self.not_more(self.check(parts.changed(wish=wish)), least)

    def test_a_price_that_falls(self):
        for chance, parts in self.samples():
            least = least_cost(parts.task)
            for place in range(3):
                prices = list(parts.prices)
                prices[place] = chance.randint(1, prices[place])
                self.not_more(self.check(parts.changed(prices=tuple(prices))), least)
            for prefix, price in parts.single.items():
                for lower in PRICE_CHOICES:
                    if price is None or lower < price:
                        self.not_more(self.check(parts.changed(single={**parts.single, prefix: lower})), least)

    def test_a_row_that_is_locked(self):
        for _, parts in self.samples():
            least = least_cost(parts.task)
            for prefix in parts.table:
                self.not_more(least, self.check(parts.changed(single={**parts.single, prefix: None})))


class LargeTest(CheckedTest):
    def test_width_32_with_forty_rows(self):
        for chance in chances(6):
            parts = large_parts(chance, 32, 45)
            least = self.check(parts)
            self.assertGreater(least, 0)
            prefix = max(parts.wish)
            self.assertIsNone(self.check(parts.changed(wish={**parts.wish, prefix: []})))

    def test_a_hundred_rows_and_a_wish_with_a_thousand(self):
        for chance in chances(1):
            table = some_table_rows(chance, 32, 100, 'abcdefghij')
            start = {format(number, 'b').zfill(9): 1 for number in range(512)}
            wish = {}
            for prefix in start:
                wish[prefix + format(chance.getrandbits(22), 'b').zfill(22)] = chance.sample('abcdefghijkl', 3)
                wish[prefix] = chance.sample(['a', 'b', 'c', None], 2)
            single = {prefix: 9 for prefix in list(table)[::3]}
            least = self.check(Parts(32, table, dict(list(wish.items())[:1000]), (7, 5, 3), single))
            self.assertGreater(least, 0)

    def test_more_than_a_thousand_targets(self):
        letters = 'abcdefghijk'
        names = [one + two + three for one in letters for two in letters for three in letters][:1100]
        table = {format(number, 'b').zfill(7): name for number, name in enumerate(names[:100])}
        wish = {format(number, 'b').zfill(10) + '1' * 22: [name] for number, name in enumerate(names[100:])}
        least = self.check(Parts(32, table, wish, (2, 1, 1), {}))
        # Each of the hundred rows can be changed for one of the eight addresses below it; 900 rows are added.
        self.assertEqual(least, 100 * 1 + 900 * 2)
