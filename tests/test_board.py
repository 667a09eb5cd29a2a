"""Points 2, 24 and 25: boards in use."""

import unittest

from keptroutes.board import Board
from keptroutes.cheapest import least_cost
from keptroutes.errors import NoSolution, UnknownMark
from keptroutes.obstacles import first_obstacle
from keptroutes.tables import Table
from keptroutes.tasks import Prices, cost, is_solution
from keptroutes.wishes import Wish
from tests.plain_board import PlainBoard, ended, shown, some_command
from tests.samples import chances, raises


class ExampleTest(unittest.TestCase):
    def test_example_of_the_document(self):
        board = Board()
        self.assertIsNone(board.create('main', 2))
        self.assertIsNone(board.put('main', '', 'a'))
        self.assertIsNone(board.lock('main', ''))
        self.assertEqual([board.revise('main', {'1': ['b']}), board.table_of('main').rows], [1, {'': 'a', '1': 'b'}])
        with self.assertRaises(NoSolution) as caught:
            board.revise('main', {'0': [None]})
        self.assertEqual(caught.exception.leaf, '0')


class DrawnTest(unittest.TestCase):
    """Commands in drawn orders, with and without errors."""

    def run_one(self, board, plain, log, command):
        word, *arguments = command
        expected = plain.error_of(*command)
        if word == 'revise' and expected is not None and issubclass(expected, NoSolution):
            leaf = first_obstacle(plain.task(*arguments))
            with self.assertRaises(NoSolution) as caught:
                board.revise(*arguments)
            self.assertEqual(caught.exception.leaf, leaf)
            found = NoSolution
        else:
            task = plain.task(*arguments) if word == 'revise' and expected is None else None
            found, result = ended(lambda: getattr(board, word)(*arguments))
            self.check_result(board, plain, task, command, found, result)
        self.assertIs(found, expected)
        log += [word, 'done' if expected is None else 'failed']

    def check_result(self, board, plain, task, command, found, result):
        if command[0] != 'revise':
            self.assertIsNone(result)
            if found is None:
                plain.do(*command)
        elif found is None:
            name = command[1]
            made = board.table_of(name)
            self.assertEqual([result, cost(task, made)], [least_cost(task)] * 2)
            self.assertIs(is_solution(task, made), True)
            for prefix, price in plain.tables[name][3].items():
                self.assertTrue(price is not None or made.rows[prefix] == plain.tables[name][1][prefix])
            plain.do('revise', name, made.rows, result)

    def test_many_commands(self):
        met = {}
        for chance in chances(60):
            boards = [(Board(), PlainBoard(), [])]
            for _ in range(60):
                board, plain, log = chance.choice(boards)
                command = some_command(chance, plain)
                if command[0] == 'price':
                    prices = tuple(chance.choice((1, 2, 5, 999, 0)) for _ in range(3))
                    self.price(board, plain, log, command[1], prices)
                else:
                    self.run_one(board, plain, log, command)
                if len(boards) < 3 and chance.random() < 0.03:
                    boards.append((board.copy(), plain.copy(), []))
                for each, other, told in boards:
                    self.assertEqual(shown(each), other.tables)
                    self.assertEqual(list(shown(each)), each.names)
                    self.assertEqual(each.log, told)
            for word, end in zip(log[::2], log[1::2]):
                met[word, end] = met.get((word, end), 0) + 1
        self.assertEqual(len(met), 20)
        self.assertGreater(min(met.values()), 5, met)

    def price(self, board, plain, log, name, prices):
        adding, changing, removing = prices
        found, result = ended(lambda: board.price(name, adding=adding, removing=removing, changing=changing))
        self.assertIs(found, plain.price_error(name, *prices))
        self.assertIsNone(result)
        if found is None:
            plain.do('price', name, *prices)
        log += ['price', 'done' if found is None else 'failed']


class CommandTest(unittest.TestCase):
    def setUp(self):
        self.board = Board()
        self.board.create('main', 3)
        self.board.put('main', '', 'a')
        self.board.put('main', '1', 'b')

    def rows(self):
        return self.board.table_of('main').rows

    def single(self):
        return self.board.prices_of('main').single

    def prices(self, name='main'):
        prices = self.board.prices_of(name)
        return [prices.adding, prices.changing, prices.removing]

    def test_tables_of_all_widths(self):
        for width in range(1, 33):
            board = Board()
            board.create('wide', width)
            self.assertEqual([board.table_of('wide'), board.spent_on('wide')], [Table(width, {}), 0])
            board.put('wide', '1' * width, 'abcdefgh')
            board.put('wide', '0' * width, 'a')
            self.assertEqual(board.table_of('wide').rows, {'0' * width: 'a', '1' * width: 'abcdefgh'})
            least = 1 if width == 1 else 2
            self.assertEqual(board.revise('wide', {'1': ['b']}), least)
            self.assertEqual([board.table_of('wide').lookup('1' * width), board.spent_on('wide')], ['b', least])

    def test_names_like_targets(self):
        for name in ('a', 'z', 'abcdefgh', 'main', 'done', 'none', 'any'):
            board = Board()
            board.create(name, 1)
            board.mark(name)
            board.back(name)
            self.assertEqual(board.names, [name])

    def test_put_and_take(self):
        self.board.put('main', '1', 'c')
        self.board.put('main', '010', 'b')
        self.assertEqual(self.rows(), {'': 'a', '010': 'b', '1': 'c'})
        self.board.take('main', '')
        self.assertEqual(self.rows(), {'010': 'b', '1': 'c'})

    def test_put_of_a_locked_row(self):
        self.board.lock('main', '1')
        self.board.put('main', '1', 'c')
        self.assertEqual([self.rows(), self.single()], [{'': 'a', '1': 'c'}, {'1': None}])
        # It is still locked, with its new target.
        self.assertEqual(self.board.revise('main', {'1': ['d']}), 2)
        self.assertEqual(self.rows(), {'': 'a', '1': 'c', '10': 'd', '11': 'd'})

    def test_take_of_a_locked_row(self):
        self.board.lock('main', '1')
        self.board.lock('main', '')
        self.board.take('main', '1')
        self.assertEqual([self.rows(), self.single()], [{'': 'a'}, {'': None}])
        self.board.put('main', '1', 'b')
        self.assertEqual([self.rows(), self.single()], [{'': 'a', '1': 'b'}, {'': None}])
        self.assertEqual(self.board.revise('main', {'1': ['d']}), 1)
        self.assertEqual(self.rows(), {'': 'a', '1': 'd'})

    def test_free(self):
        self.board.lock('main', '1')
        self.board.lock('main', '')
        self.board.free('main', '1')
        self.assertEqual(self.single(), {'': None})
        self.board.free('main', '1')
        self.assertEqual(self.single(), {'': None})
        self.board.free('main', '')
        self.assertEqual([self.rows(), self.single()], [{'': 'a', '1': 'b'}, {}])
        self.board.lock('main', '')
        self.board.lock('main', '')
        self.assertEqual(self.single(), {'': None})

    def test_price_keeps_locks(self):
        self.board.lock('main', '1')
        self.board.price('main', adding=7, changing=8, removing=9)
        self.assertEqual([self.prices(), self.single()], [[7, 8, 9], {'1': None}])
        self.board.free('main', '1')
        self.assertEqual([self.prices(), self.single()], [[7, 8, 9], {}])
        self.board.lock('main', '')
        self.board.take('main', '')
        self.assertEqual([self.prices(), self.single()], [[7, 8, 9], {}])

    def test_price_sets_all_three(self):
        for arguments, expected in (
            ({}, [1, 1, 1]), ({'adding': 5}, [5, 1, 1]), ({'changing': 6}, [1, 6, 1]), ({'removing': 999}, [1, 1, 999]),
            ({'removing': 2, 'adding': 3}, [3, 1, 2]), ({}, [1, 1, 1]),
        ):
            self.assertIsNone(self.board.price('main', **arguments))
            self.assertEqual(self.prices(), expected)
        for arguments in (('main', 1), ('main', 1, 1, 1), ()):
            with self.assertRaises(TypeError):
                self.board.price(*arguments)

    def test_revise_adds_its_cost(self):
        self.board.price('main', adding=5, changing=20, removing=3)
        self.assertEqual(self.board.revise('main', {'000': ['c'], '001': ['a']}), 5)
        self.assertEqual(self.board.spent_on('main'), 5)
        self.assertEqual(self.board.revise('main', {'000': ['c']}), 0)
        self.assertEqual(self.board.revise('main', {}), 0)
        self.board.lock('main', '')
        self.assertEqual(self.board.revise('main', {'1': ['a']}), 3)
        self.assertEqual([self.rows(), self.single()], [{'': 'a', '000': 'c'}, {'': None}])
        self.assertEqual(self.board.spent_on('main'), 8)
        raises(self, NoSolution, lambda: self.board.revise('main', {'01': [None]}))
        self.assertEqual(self.board.spent_on('main'), 8)
        self.board.put('main', '01', 'e')
        self.assertEqual(self.board.spent_on('main'), 8)

    def test_revise_takes_lists_and_tuples_and_keeps_none(self):
        allowed = ['b', None]
        rows = {'1': allowed, '0': ('a',)}
        self.assertEqual(self.board.revise('main', rows), 0)
        self.assertEqual([rows, allowed, list(rows)], [{'1': ['b', None], '0': ('a',)}, ['b', None], ['1', '0']])
        rows['1'] = ['q']
        allowed.clear()
        self.assertEqual(self.rows(), {'': 'a', '1': 'b'})

    def test_drop_and_create_again(self):
        self.board.price('main', adding=5)
        self.board.lock('main', '')
        self.board.revise('main', {'000': ['c'], '001': ['d']})
        self.assertGreater(self.board.spent_on('main'), 0)
        self.board.drop('main')
        self.assertEqual(self.board.names, [])
        self.board.create('main', 4)
        self.assertEqual([self.board.table_of('main'), self.board.spent_on('main')], [Table(4, {}), 0])
        self.assertEqual([self.prices(), self.single()], [[1, 1, 1], {}])
        self.board.put('main', '', 'a')
        self.assertEqual(self.single(), {})

    def test_tables_are_independent(self):
        self.board.create('other', 3)
        for prefix, target in self.rows().items():
            self.board.put('other', prefix, target)
        self.board.lock('other', '1')
        self.board.price('other', adding=9)
        self.board.revise('other', {'1': ['c']})
        self.assertEqual([self.rows(), self.prices(), self.single(), self.board.spent_on('main')], [
            {'': 'a', '1': 'b'}, [1, 1, 1], {}, 0])
        self.assertEqual([self.prices('other'), self.board.spent_on('other')], [[9, 1, 1], 18])

    def test_arguments_by_name(self):
        board = Board()
        board.create(width=2, name='main')
        board.put(target='a', prefix='1', name='main')
        board.put('main', '', target='b')
        board.price(removing=4, name='main', adding=2)
        board.lock(prefix='1', name='main')
        self.assertEqual(board.prices_of(name='main').single, {'1': None})
        board.free(prefix='1', name='main')
        board.mark(label='x')
        self.assertEqual(board.revise(rows={'1': [None, 'c']}, name='main'), 1)
        self.assertEqual(board.spent_on(name='main'), 1)
        board.back(label='x')
        board.take(prefix='1', name='main')
        self.assertEqual(board.table_of(name='main').rows, {'': 'b'})
        self.assertEqual(board.batch(commands=[('put', 'main', '0', 'c')]), [None])
        board.drop(name='main')
        self.assertEqual(board.names, [])


class QueryTest(unittest.TestCase):
    def setUp(self):
        self.board = Board()

    def test_names(self):
        self.assertEqual(self.board.names, [])
        for name in ('main', 'b', 'zz', 'a', 'ab', 'aa', 'side'):
            self.board.create(name, 1)
        self.board.drop('b')
        self.assertEqual(self.board.names, ['a', 'aa', 'ab', 'main', 'side', 'zz'])
        self.board.names.clear()
        self.board.names.append('q')
        self.assertIsNot(self.board.names, self.board.names)
        self.assertEqual(self.board.names, ['a', 'aa', 'ab', 'main', 'side', 'zz'])

    def test_what_was_returned_does_not_change(self):
        self.board.create('main', 2)
        self.board.put('main', '', 'a')
        self.board.lock('main', '')
        table, prices = self.board.table_of('main'), self.board.prices_of('main')
        self.assertEqual([type(table), type(prices)], [Table, Prices])
        self.board.put('main', '', 'b')
        self.board.price('main', adding=9)
        self.board.free('main', '')
        self.board.revise('main', {'1': ['c']})
        self.board.drop('main')
        self.assertEqual([table.rows, prices.adding, prices.single], [{'': 'a'}, 1, {'': None}])

    def test_what_was_returned_does_not_change_the_board(self):
        self.board.create('main', 2)
        self.board.put('main', '', 'a')
        self.board.table_of('main').rows.clear()
        self.board.table_of('main').with_row('1', 'b')
        self.board.prices_of('main').single['0'] = None
        self.board.prices_of('main').with_row('', None)
        self.assertEqual(shown(self.board), {'main': [2, {'': 'a'}, (1, 1, 1), {}, 0]})

    def test_log(self):
        self.assertEqual(self.board.log, [])
        self.board.create('main', 2)
        ended(lambda: self.board.create('main', 2))
        ended(lambda: self.board.put('main', '2', 'a'))
        self.board.price('main')
        self.board.mark('x')
        expected = ['create', 'done', 'create', 'failed', 'put', 'failed', 'price', 'done', 'mark', 'done']
        self.assertEqual(self.board.log, expected)
        self.board.log.clear()
        self.board.log.append('x')
        self.assertIsNot(self.board.log, self.board.log)
        self.assertEqual(self.board.log, expected)
        self.board.back('x')
        self.assertEqual(self.board.log, expected + ['back', 'done'])

    def test_queries_write_no_log(self):
        self.board.create('main', 2)
        for action in (self.board.table_of, self.board.prices_of, self.board.spent_on):
            action('main')
            ended(lambda: action('none'))
        self.assertEqual([self.board.names, self.board.copy().names], [['main'], ['main']])
        self.assertEqual(self.board.log, ['create', 'done'])

    def test_each_command_in_the_log(self):
        for word, arguments in (
            ('create', ('main', 1)), ('put', ('main', '', 'a')), ('price', ('main',)), ('lock', ('main', '')),
            ('free', ('main', '')), ('revise', ('main', {})), ('take', ('main', '')), ('mark', ('m',)),
            ('drop', ('main',)), ('back', ('m',)), ('batch', ([],)),
        ):
            getattr(self.board, word)(*arguments)
            self.assertEqual(self.board.log[-2:], [word, 'done'])
            wrong = (None,) * len(arguments)
            found, _ = ended(lambda: getattr(self.board, word)(*wrong))
            self.assertIsNotNone(found)
            self.assertEqual(self.board.log[-2:], [word, 'failed'])
        self.assertEqual(len(self.board.log), 44)

    def test_copy(self):
        self.board.create('main', 2)
        self.board.put('main', '', 'a')
        self.board.lock('main', '')
        self.board.price('main', adding=4)
        self.board.revise('main', {'1': ['b']})
        self.board.mark('x')
        self.board.create('side', 3)
        copied = self.board.copy()
        self.assertIs(type(copied), Board)
        self.assertEqual([copied.log, shown(copied)], [[], shown(self.board)])
        before = shown(copied)
        self.board.drop('side')
        self.board.mark('y')
        self.board.put('main', '0', 'c')
        self.assertEqual([copied.log, shown(copied)], [[], before])
        raises(self, UnknownMark, lambda: copied.back('y'))
        here = shown(self.board)
        copied.put('side', '', 'z')
        copied.mark('y')
        copied.free('main', '')
        copied.back('x')
        self.assertEqual(copied.names, ['main'])
        self.assertEqual(shown(copied)['main'], [2, {'': 'a', '1': 'b'}, (4, 1, 1), {'': None}, 4])
        self.assertEqual(shown(self.board), here)
        self.board.back('y')
        self.assertEqual(shown(self.board)['main'][1], {'': 'a', '1': 'b'})
        copied.back('y')
        self.assertEqual(shown(copied)['side'][1], {'': 'z'})
        self.assertEqual(copied.log, ['back', 'failed', 'put', 'done', 'mark', 'done', 'free', 'done', 'back', 'done',
                                      'back', 'done'])

    def test_revisions_of_a_large_table(self):
        for chance in chances(1):
            self.board.create('large', 32)
            for number in range(50):
                bits = format(chance.getrandbits(32), 'b').zfill(32)
                self.board.put('large', bits[:chance.randint(8, 32)], chance.choice('abc'))
                if number % 5 == 0:
                    self.board.lock('large', list(self.board.table_of('large').rows)[0])
            before = self.board.table_of('large')
            locked = {prefix: before.rows[prefix] for prefix in self.board.prices_of('large').single}
            wish = {'': ['a', 'b', None], '0': ['a', 'c'], '11': ['b', 'c', 'd']}
            wish.update({prefix: [target] for prefix, target in locked.items()})
            price = self.board.revise('large', wish)
            found = self.board.table_of('large')
            self.assertIs(Wish(32, wish).is_fulfilled(found), True)
            self.assertTrue(all(found.rows[prefix] == target for prefix, target in locked.items()))
            self.assertEqual(self.board.spent_on('large'), price)
