"""Point 2 over the whole program: equal maps behave alike, and maps stay whatever is done with others."""

import unittest

from keptroutes.board import Board
from keptroutes.certificates import certificate, check_certificate
from keptroutes.cheapest import cheapest, least_cost
from keptroutes.errors import RouteError
from keptroutes.fewest import fewest_equal, fewest_rows
from keptroutes.history import History
from keptroutes.maps import PrefixMap
from keptroutes.merging import conflicts, merge_task, merge_wish
from keptroutes.obstacles import obstacles
from keptroutes.plans import Plan, moved_runs, switches
from keptroutes.sequences import changes, is_safe, moments
from keptroutes.shell import Shell
from keptroutes.stretches import first_difference, same_meaning, stretches
from keptroutes.tables import Table
from keptroutes.tasks import Prices, Task, cost, is_solution
from keptroutes.texts import format_map, parse_map
from keptroutes.wishes import Wish
from tests.samples import beside, chances, near_rows, some_table_rows, some_wish_rows

WIDTHS = (1, 2, 5, 32)


def shuffled(chance, rows):
    return {prefix: rows[prefix] for prefix in chance.sample(list(rows), len(rows))}


def row_by_row(some, rows):
    for prefix, value in rows.items():
        some = some.with_row(prefix, value)
    return some


def by_history(table, rows):
    history = History(table)
    history.put('', 'zz')
    history.cut('')
    for prefix, target in rows.items():
        history.put(prefix, target)
    for prefix in list(rows)[:2]:
        history.cut(prefix)
        history.put(prefix, rows[prefix])
    return history.copy().latest


def by_board(width, rows):
    board = Board()
    board.create('main', width)
    board.batch([('put', 'main', prefix, target) for prefix, target in rows.items()])
    board.mark('x')
    board.put('main', '', 'zz')
    board.back('x')
    return board.copy().table_of('main')


def by_shell(width, rows):
    shell = Shell()
    shell.run(f'create main {width}')
    for prefix, target in rows.items():
        shell.run(f'put main {prefix or "*"} {target}')
    return parse_map(shell.run('show main').replace(' / ', '\n'))


def by_plan(old, new):
    plan = Plan(old, new)
    plan.finish()
    return plan.current


def tables_like(chance, width, rows):
    """Return tables with these rows, made in all the ways that the program knows."""
    order = shuffled(chance, rows)
    other = Table(width, some_table_rows(chance, width, 5, 'xyz'))
    made = [
        Table(width, rows), Table(width, order), Table.of(width, *order.items()), row_by_row(Table(width, {}), order),
        row_by_row(Table(width, order), shuffled(chance, rows)), parse_map(format_map(Table(width, order))),
        by_history(Table(width, {}), order), by_board(width, order), by_shell(width, order),
        by_plan(other, Table(width, order)), ([other] + list(moments(other, Table(width, order))))[-1],
    ]
    if '1' not in rows:
        made.append(Table(width, {**order, '1': 'q'}).without('1'))
    return made


def wishes_like(chance, width, rows):
    """Return wishes with these rows, made in several ways."""
    order = {prefix: tuple(chance.sample(allowed, len(allowed))) for prefix, allowed in shuffled(chance, rows).items()}
    return [
        Wish(width, rows), Wish(width, order), row_by_row(Wish(width, {}), order),
        parse_map(format_map(Wish(width, order))), Wish(width, {**order, '0': ['q']}).without('0').with_row(
            '0', order['0']) if '0' in order else Wish(width, {**order, '0': ['q']}).without('0'),
    ]


def ended(action):
    """Return what the action returns, or the error that it raises, as plain values."""
    try:
        found = action()
    except RouteError as error:
        return [error.__class__.__name__, getattr(error, 'leaf', None)]
    if isinstance(found, PrefixMap):
        return [type(found).__name__, found.width, list(found.walk())]
    return found


def table_answers(table, other, address):
    """Return what the program says of a table, alone and beside another one."""
    one, two = ended(lambda: Plan(table, other)), ended(lambda: Plan(other, table))
    if not one.is_finished:
        one.advance()
    return [
        table.width, table.rows, list(table.rows), len(table), list(table.walk()), table.targets, table.lookup(address),
        table.longest(address), [ended(lambda: table.without(prefix)) for prefix in ('', '0', '1')],
        ended(lambda: table.with_row('0', 'n')), ended(lambda: Wish.exact(table)), format_map(table), stretches(table),
        first_difference(table, other), same_meaning(other, table), ended(lambda: fewest_equal(table)),
        changes(table, other), changes(other, table), [ended(lambda: each) for each in moments(table, other)],
        is_safe(table, other, changes(table, other)), is_safe(other, table, changes(other, table)[::-1]),
        ended(lambda: merge_wish(table, other, Table(table.width, {}))), conflicts(other, table, table),
        conflicts(Table(table.width, {}), table, other), moved_runs(table, other), list(switches(other, table)),
        one.steps, one.done, one.is_finished, one.current.rows, two.steps, two.finish(), two.current.rows,
        ended(lambda: History(table).latest), len(History(table)),
    ]


def task_answers(table, wish, other, prices):
    """Return what the program says of a task."""
    task = Task(table, wish, prices)
    least = least_cost(task)
    history = History(table)
    plan = Plan(other, table)
    return [
        task.nodes, task.leaves, task.choices, cost(task, other), is_solution(task, other), list(obstacles(task)),
        least, ended(lambda: [cheapest(task)[0], cheapest(task)[1].rows]), certificate(task),
        list(certificate(task)), check_certificate(task, certificate(task), least),
        ended(lambda: fewest_rows(wish)), wish.first_failure(table), wish.is_fulfilled(other), wish.rows,
        list(wish.rows), format_map(wish), ended(lambda: history.revise(wish, prices)), history.latest.rows,
        history.spent, ended(lambda: plan.rebased(table, prices).steps),
        least_cost(merge_task(other, table, Table(table.width, {}), prices)),
    ]


class AlikeTest(unittest.TestCase):
    def test_tables(self):
        for chance in chances(12):
            for width in WIDTHS:
                rows = some_table_rows(chance, width, chance.choice((0, 3, 8)), 'abc')
                other = Table(width, near_rows(chance, width, rows, 'abc'))
                address = chance.choice(beside(width, rows))
                tables = tables_like(chance, width, rows)
                expected = table_answers(tables[0], other, address)
                for place, table in enumerate(tables):
                    with self.subTest(width=width, rows=rows, place=place):
                        self.assertTrue(table == tables[0] and tables[0] == table and not table != tables[0])
                        self.assertEqual(table_answers(table, other, address), expected)

    def test_tasks(self):
        for chance in chances(12):
            for width in WIDTHS:
                rows = some_table_rows(chance, width, chance.choice((0, 3, 8)), 'abc')
                wish = some_wish_rows(chance, width, chance.choice((0, 2, 4)), 'abcd')
                other = Table(width, near_rows(chance, width, rows, 'abc'))
                single = {prefix: chance.choice((None, 1, 7)) for prefix in rows if chance.random() < 0.5}
                tables, wishes = tables_like(chance, width, rows), wishes_like(chance, width, wish)
                prices = [row_by_row(Prices(adding=3, changing=2), shuffled(chance, single)) for _ in range(2)]
                expected = task_answers(tables[0], wishes[0], other, prices[0])
                for place, table in enumerate(tables):
                    some = wishes[place % len(wishes)]
                    with self.subTest(width=width, rows=rows, wish=wish, place=place):
                        self.assertEqual(some, wishes[0])
                        self.assertEqual(task_answers(table, some, other, prices[place % 2]), expected)

    def test_maps_of_other_classes_and_widths_are_not_equal(self):
        for one, two in (
            (Table(2, {}), Wish(2, {})), (Table(2, {}), PrefixMap(2, {})), (Table(2, {}), Table(3, {})),
            (Table(2, {'': 'a'}), Table(2, {'': 'b'})), (Table(2, {'0': 'a'}), Table(2, {'1': 'a'})),
            (Wish(2, {'': []}), Wish(2, {})), (Wish(2, {'': [None]}), Wish(2, {'': []})),
        ):
            self.assertFalse(one == two or two == one)
            self.assertTrue(one != two)


class StayTest(unittest.TestCase):
    """Maps stay as they were, whatever is done with others made from them."""

    def test_maps(self):
        for chance in chances(12):
            for width in WIDTHS:
                rows = some_table_rows(chance, width, 6, 'abc')
                table, wish = Table(width, rows), Wish(width, some_wish_rows(chance, width, 4, 'abc'))
                other = Table(width, near_rows(chance, width, rows, 'abc'))
                prices = row_by_row(Prices(adding=4), {prefix: None for prefix in list(rows)[:1]})
                address = '0' * width
                before = table_answers(table, other, address), task_answers(table, wish, other, prices)
                made = [table.with_row('', 'q'), table.without(list(rows)[0]) if rows else table, fewest_equal(table)]
                made += list(moments(table, other)) + list(moments(other, table))
                for each in made:
                    table_answers(each, other, address)
                    task_answers(each, wish.with_row('', ['a', 'b']), table, prices.with_row('', 5))
                    each.rows.clear()
                    each.targets.clear()
                after = table_answers(table, other, address), task_answers(table, wish, other, prices)
                self.assertEqual(after, before)

    def test_tables_that_histories_boards_and_plans_return(self):
        for chance in chances(20):
            for width in WIDTHS:
                rows = some_table_rows(chance, width, 5, 'abc')
                wish = some_wish_rows(chance, width, 2, 'abc')
                table = Table(width, rows)
                history, board = History(table), Board()
                plan = Plan(table, Table(width, near_rows(chance, width, rows, 'abc')))
                board.create('main', width)
                found = []
                for prefix, target in rows.items():
                    board.put('main', prefix, target)
                    history.put(prefix, chance.choice('abc'))
                    found += [history.latest, history.version(0), board.table_of('main'), plan.current]
                kept = [(each, each.width, each.rows) for each in found]
                ended(lambda: history.revise(Wish(width, wish), Prices()))
                ended(lambda: board.revise('main', wish))
                plan.finish()
                for prefix in rows:
                    ended(lambda: history.cut(prefix))
                    ended(lambda: board.take('main', prefix))
                board.drop('main')
                plan.abandon()
                self.assertEqual([(each.width, each.rows) for each in found], [each[1:] for each in kept])
                self.assertEqual([table.rows, history.version(0).rows], [dict(sorted(rows.items()))] * 2)
