"""Point 2 over the whole program: arguments by position and by name, in any order, those behind "*" only by name."""

import inspect
import itertools
import types
import unittest

from keptroutes import (
    certificates, cheapest, fewest, maps, merging, obstacles, plans, sequences, stretches, tables, tasks, texts, wishes,
)
from keptroutes.board import Board
from keptroutes.errors import RouteError
from keptroutes.history import History
from keptroutes.maps import PrefixMap
from keptroutes.plans import Plan
from keptroutes.shell import Shell
from keptroutes.tables import Table
from keptroutes.tasks import Prices, Task
from keptroutes.wishes import Wish
from tests.plain_board import shown

ONE = Table.of(2, ('', 'a'), ('1', 'b'))
TWO = Table.of(2, ('', 'c'), ('10', 'a'))
WISH = Wish(2, {'0': ['b', 'a'], '01': [None]})
PRICES = Prices(adding=2, changing=3).with_row('', 5)
TASK = Task(ONE, WISH, PRICES)
COMMANDS = [('create', 'new', 2), ('put', 'new', '', 'a')]


def board():
    made = Board()
    for command in (('create', 'main', 2), ('put', 'main', '', 'a'), ('lock', 'main', ''), ('mark', 'x')):
        getattr(made, command[0])(*command[1:])
    return made


def history():
    made = History(ONE)
    made.put('0', 'z')
    return made


def shell():
    made = Shell()
    made.run('create main 2')
    return made


# Each row: what makes the callable, and its arguments in the order of the document.
CALLS = (
    (lambda: maps.is_prefix, {'thing': '01', 'width': 2}),
    (lambda: PrefixMap, {'width': 2, 'rows': {'1': 7, '': 5}}),
    (lambda: PrefixMap(2, {'1': 7}).longest, {'prefix': '10'}),
    (lambda: PrefixMap(2, {'1': 7}).with_row, {'prefix': '10', 'value': 4}),
    (lambda: PrefixMap(2, {'1': 7}).without, {'prefix': '1'}),
    (lambda: Table, {'width': 2, 'rows': {'1': 'a', '': 'b'}}),
    (lambda: Table.of, {'width': 2}),
    (lambda: Table.is_target, {'thing': 'ab'}),
    (lambda: ONE.lookup, {'address': '10'}),
    (lambda: ONE.with_row, {'prefix': '10', 'value': 'q'}),
    (lambda: ONE.without, {'prefix': '1'}),
    (lambda: ONE.longest, {'prefix': '1'}),
    (lambda: Wish, {'width': 2, 'rows': {'1': ['b', 'a'], '': [None]}}),
    (lambda: Wish.exact, {'table': ONE}),
    (lambda: WISH.allowed, {'address': '01'}),
    (lambda: WISH.first_failure, {'table': ONE}),
    (lambda: WISH.is_fulfilled, {'table': ONE}),
    (lambda: WISH.with_row, {'prefix': '10', 'value': ['q', None]}),
    (lambda: texts.format_map, {'some': WISH}),
    (lambda: texts.parse_map, {'text': 'wish 2\n* - a\n0'}),
    (lambda: stretches.stretches, {'table': ONE}),
    (lambda: stretches.first_difference, {'one': ONE, 'two': TWO}),
    (lambda: stretches.same_meaning, {'one': ONE, 'two': TWO}),
    (lambda: PRICES.with_row, {'prefix': '1', 'price': None}),
    (lambda: Task, {'table': ONE, 'wish': WISH, 'prices': PRICES}),
    (lambda: tasks.cost, {'task': TASK, 'table': TWO}),
    (lambda: tasks.is_solution, {'task': TASK, 'table': TWO}),
    (lambda: obstacles.is_obstacle, {'task': TASK, 'leaf': '01'}),
    (lambda: obstacles.obstacles, {'task': TASK}),
    (lambda: obstacles.first_obstacle, {'task': TASK}),
    (lambda: cheapest.least_cost, {'task': TASK}),
    (lambda: cheapest.cheapest, {'task': TASK}),
    (lambda: certificates.certificate, {'task': TASK}),
    (lambda: certificates.check_certificate, {'task': TASK, 'thing': certificates.certificate(TASK), 'bar': 1}),
    (lambda: fewest.fewest_rows, {'wish': WISH}),
    (lambda: fewest.fewest_equal, {'table': ONE}),
    (lambda: sequences.changes, {'old': ONE, 'new': TWO}),
    (lambda: sequences.moments, {'old': ONE, 'new': TWO}),
    (lambda: sequences.is_safe, {'old': ONE, 'new': TWO, 'thing': sequences.changes(ONE, TWO)}),
    (lambda: merging.merge_wish, {'base': Table(2, {}), 'one': ONE, 'two': TWO}),
    (lambda: merging.conflicts, {'base': Table(2, {}), 'one': ONE, 'two': TWO}),
    (lambda: merging.merge_task, {'base': Table(2, {}), 'one': ONE, 'two': TWO, 'prices': PRICES}),
    (lambda: History, {'table': ONE}),
    (lambda: history().revise, {'wish': WISH, 'prices': PRICES}),
    (lambda: history().put, {'prefix': '11', 'target': 'q'}),
    (lambda: history().cut, {'prefix': '1'}),
    (lambda: history().version, {'index': 0}),
    (lambda: board().create, {'name': 'new', 'width': 3}),
    (lambda: board().put, {'name': 'main', 'prefix': '1', 'target': 'q'}),
    (lambda: board().take, {'name': 'main', 'prefix': ''}),
    (lambda: board().lock, {'name': 'main', 'prefix': ''}),
    (lambda: board().free, {'name': 'main', 'prefix': ''}),
    (lambda: board().revise, {'name': 'main', 'rows': {'1': ['z']}}),
    (lambda: board().drop, {'name': 'main'}),
    (lambda: board().mark, {'label': 'main'}),
    (lambda: board().back, {'label': 'x'}),
    (lambda: board().batch, {'commands': COMMANDS}),
    (lambda: board().table_of, {'name': 'main'}),
    (lambda: board().prices_of, {'name': 'main'}),
    (lambda: board().spent_on, {'name': 'main'}),
    (lambda: shell().run, {'line': 'put main * a'}),
    (lambda: plans.moved_runs, {'before': ONE, 'after': TWO}),
    (lambda: plans.switches, {'old': ONE, 'new': TWO}),
    (lambda: Plan, {'old': ONE, 'new': TWO}),
    (lambda: Plan(ONE, TWO).rebased, {'table': TWO, 'prices': PRICES}),
)
# These take arguments by name only, besides the first one of price.
NAMED = {'adding': 4, 'changing': 5, 'removing': 6}


def plain(thing):
    """Return what an object of the program shows, as plain values that can be compared."""
    if isinstance(thing, PrefixMap):
        return [type(thing).__name__, thing.width, thing.rows]
    if isinstance(thing, Prices):
        return ['Prices', thing.adding, thing.changing, thing.removing, thing.single]
    if isinstance(thing, Task):
        return ['Task', plain(thing.table), plain(thing.wish), plain(thing.prices), thing.nodes]
    if isinstance(thing, History):
        return ['History', thing.spent] + [plain(thing.version(index)) for index in range(len(thing))]
    if isinstance(thing, Plan):
        return ['Plan', thing.done, thing.steps, plain(thing.current)]
    if isinstance(thing, Board):
        return ['Board', thing.log, shown(thing)]
    if isinstance(thing, Shell):
        return ['Shell', thing.run('names')] + [thing.run(f'show {name}') for name in thing.run('names').split(' ')]
    if isinstance(thing, types.GeneratorType):
        return ['generator'] + [plain(part) for part in thing]
    if isinstance(thing, (list, tuple)):
        return [type(thing).__name__] + [plain(part) for part in thing]
    return thing


def answer(make, positions, names):
    """Return what a call answers and what the object is then of which a method was called."""
    action = make()
    found = plain(action(*positions, **names))
    owner = getattr(action, '__self__', None)
    return [found, plain(owner) if not isinstance(owner, type) else None]


class ArgumentsTest(unittest.TestCase):
    def test_all_ways_to_pass_arguments(self):
        for make, arguments in CALLS:
            values = list(arguments.values())
            expected = answer(make, values, {})
            for many in range(len(values) + 1):
                for order in itertools.permutations(list(arguments.items())[many:]):
                    with self.subTest(action=make().__name__, many=many, order=repr(order)[:60]):
                        self.assertEqual(answer(make, values[:many], dict(order)), expected)

    def test_names_are_just_those_of_the_document(self):
        for make, arguments in CALLS:
            with self.subTest(make().__name__):
                found = inspect.signature(make()).parameters
                kinds = [one.kind for one in found.values() if one.kind != one.VAR_POSITIONAL]
                self.assertEqual([name for name in found if name != 'pairs'], list(arguments))
                self.assertEqual(set(kinds), {inspect.Parameter.POSITIONAL_OR_KEYWORD})

    def test_arguments_by_name_only(self):
        for many in range(4):
            for some in itertools.permutations(NAMED.items(), many):
                made = board()
                made.price('main', **dict(some))
                expected = {**dict.fromkeys(NAMED, 1), **dict(some)}
                self.assertEqual(plain(Prices(**dict(some))), ['Prices', *expected.values(), {}])
                self.assertEqual(plain(made.prices_of('main')), ['Prices', *expected.values(), {'': None}])
                named = list(some) + [('name', 'main')]
                made.price(**dict(reversed(named)))
                self.assertEqual(plain(made.prices_of('main')), ['Prices', *expected.values(), {'': None}])
        for action in (Prices, lambda *rest: board().price('main', *rest)):
            for many in range(1, 4):
                with self.assertRaises(TypeError):
                    action(*[1] * many)

    def test_no_arguments_at_all(self):
        for make in (Board, Shell, board().copy, history().copy, Plan(ONE, TWO).copy, history().undo, ONE.walk,
                     Plan(ONE, TWO).advance, Plan(ONE, TWO).finish, Plan(ONE, TWO).abandon, Plan(ONE, TWO).back):
            self.assertEqual(list(inspect.signature(make).parameters), [])
            try:
                make()
            except RouteError:
                pass

    def test_arguments_stay(self):
        for make, arguments in CALLS:
            before = plain(list(arguments.values()))
            answer(make, [], arguments)
            self.assertEqual(plain(list(arguments.values())), before)
        self.assertEqual(plain([ONE, TWO, WISH]), ['list', ['Table', 2, {'': 'a', '1': 'b'}], [
            'Table', 2, {'': 'c', '10': 'a'}], ['Wish', 2, {'0': ('a', 'b'), '01': (None,)}]])

    def test_lists_and_dicts_are_new(self):
        for make, arguments in CALLS:
            action = make()
            if action in (plans.switches, obstacles.obstacles, sequences.moments):
                continue
            found = action(**arguments)
            parts = self.parts(found)
            self.assertEqual(len(set(map(id, parts))), len(parts))
            owners = [value for value in arguments.values() if isinstance(value, (list, dict))]
            self.assertFalse({id(part) for part in parts} & {id(part) for owner in owners for part in self.parts(owner)})
            if isinstance(found, (list, dict)):
                before = plain(make()(**arguments))
                found.clear()
                self.assertEqual(plain(make()(**arguments)), before)

    def parts(self, thing):
        """Return all lists and dicts of which a result is made."""
        if isinstance(thing, dict):
            return [thing] + [part for value in thing.values() for part in self.parts(value)]
        if isinstance(thing, (list, tuple)):
            return [thing] * isinstance(thing, list) + [part for value in thing for part in self.parts(value)]
        return []
