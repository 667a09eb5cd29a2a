"""Points 2 and 24: batches of boards."""

import copy
import unittest

from keptroutes.board import Board
from keptroutes.errors import (
    DuplicateName, InvalidCommand, InvalidMap, InvalidName, InvalidPrefix, NoSolution, UnknownMark, UnknownName,
    UnknownRow,
)
from tests.plain_board import PlainBoard, ended, shown, some_command
from tests.samples import NO_STRINGS, RefusingTest, chances, kept_as_it_was, nested, raises, same

RIGHT = (
    ('create', 'new', 2), ('put', 'main', '0', 'c'), ('take', 'main', '1'), ('price', 'main'), ('lock', 'main', ''),
    ('free', 'main', ''), ('revise', 'main', {'00': ['d']}), ('drop', 'main'), ('mark', 'y'), ('back', 'x'),
)
FAILING = (
    (('create', 'main', 2), DuplicateName), (('create', 'Main', 2), InvalidName), (('create', 'z', 0), InvalidMap),
    (('put', 'none', '0', 'c'), UnknownName), (('put', 'main', '2', 'c'), InvalidPrefix),
    (('put', 'main', '0', None), InvalidMap), (('take', 'main', '01'), UnknownRow), (('price', 'none'), UnknownName),
    (('lock', 'main', '01'), UnknownRow), (('free', 'none', ''), UnknownName),
    (('revise', 'main', {'1': []}), NoSolution), (('revise', 'main', None), InvalidMap), (('drop', []), UnknownName),
    (('mark', 'x'), DuplicateName), (('mark', None), InvalidName), (('back', 'y'), UnknownMark),
)
# Items that are no commands: no tuples, other words, and other numbers of arguments.
NO_COMMANDS = tuple(thing for thing in NO_STRINGS) + (
    '', 'put', 'drop', ['drop', 'main'], ['put', 'main', '0', 'c'], {'drop': 'main'}, (('drop', 'main'),),
    ('batch', []), ('batch', [('drop', 'main')]), ('batch',), ('names',), ('log',), ('copy',), ('table_of', 'main'),
    ('prices_of', 'main'), ('spent_on', 'main'), ('Drop', 'main'), ('drop ', 'main'), ('', 'main'), (None, 'main'),
    (['drop'], 'main'), (('drop',), 'main'), ({}, 'main'), (1, 'main'), (True,), ('undo',), ('_drop', 'main'),
    ('__init__',), ('_keep', 'main', None, None, 0), ('price', 'main', 1), ('price', 'main', 1, 1, 1), ('price',),
    ('price', 'main', {'adding': 2}), ('main', 'drop'), nested(20), ('show', 'main'), ('rebased', 'main'),
) + tuple(command[:-1] for command in RIGHT) + tuple(command + ('a',) for command in RIGHT) + tuple(
    (command[0],) for command in RIGHT) + tuple(list(command) for command in RIGHT) + tuple(
    (command,) for command in RIGHT)


def made():
    """Return a board with a table, a mark and a log that is empty."""
    board = Board()
    board.create('main', 2)
    board.put('main', '', 'a')
    board.put('main', '1', 'b')
    board.lock('main', '1')
    board.mark('x')
    board.put('main', '', 'q')
    board.revise('main', {'00': ['e']})
    return board.copy()


class BatchTest(RefusingTest):
    def setUp(self):
        self.board = made()
        self.before = shown(self.board)

    def has_no_effect(self, error, commands, log):
        """Check that a batch fails with this error and changes nothing but the log."""
        many = len(self.board.log)
        with self.subTest(commands=repr(commands)[:100]):
            kept_as_it_was(self, commands, lambda: raises(self, error, lambda: self.board.batch(commands)))
            self.assertEqual(shown(self.board), self.before)
            self.assertEqual(self.board.log[many:], ['batch'] + log + ['failed'])
            raises(self, UnknownMark, lambda: self.board.back('y'))

    def test_results(self):
        found = self.board.batch([
            ('create', 'new', 1), ('put', 'new', '', 'a'), ('revise', 'new', {'': ['b']}), ('price', 'new'),
            ('revise', 'new', {'0': ['a'], '1': [None, 'b']}), ('revise', 'new', {}), ('drop', 'main'), ('mark', 'y'),
        ])
        self.assertTrue(same(found, [None, None, 1, None, 1, 0, None, None]))
        self.assertEqual(shown(self.board), {'new': [1, self.board.table_of('new').rows, (1, 1, 1), {}, 2]})
        self.assertEqual(self.board.log, [
            'batch', 'create', 'done', 'put', 'done', 'revise', 'done', 'price', 'done', 'revise', 'done', 'revise',
            'done', 'drop', 'done', 'mark', 'done', 'done'])

    def test_an_empty_batch(self):
        self.assertEqual(self.board.batch([]), [])
        self.assertEqual([self.board.log, shown(self.board)], [['batch', 'done'], self.before])

    def test_each_command_alone(self):
        for command in RIGHT:
            one, two = made(), made()
            word, *arguments = command
            result = getattr(two, word)(*arguments)
            self.assertTrue(same(one.batch([command]), [result]))
            self.assertEqual(shown(one), shown(two))
            self.assertEqual(one.log, ['batch', word, 'done', 'done'])

    def test_price_sets_the_default_prices(self):
        self.board.price('main', adding=5, changing=6, removing=7)
        self.assertEqual(self.board.batch([('price', 'main')]), [None])
        self.assertEqual(shown(self.board)['main'][2:4], [(1, 1, 1), {'1': None}])

    def test_a_command_that_fails(self):
        ahead = [('put', 'main', '00', 'z'), ('create', 'new', 3), ('mark', 'y'), ('price', 'main')]
        told = ['put', 'done', 'create', 'done', 'mark', 'done', 'price', 'done']
        for command, error in FAILING:
            if command != ('back', 'y'):
                self.has_no_effect(error, [command] + ahead, [command[0], 'failed'])
                self.has_no_effect(error, ahead[:2] + [command] + ahead[2:], told[:4] + [command[0], 'failed'])
                self.has_no_effect(error, ahead + [command], told + [command[0], 'failed'])
                # What comes behind is not looked at.
                self.has_no_effect(error, ahead + [command, None, ('put',), FAILING[0][0]], told + [
                    command[0], 'failed'])
            else:
                self.has_no_effect(error, [command], ['back', 'failed'])

    def test_each_command_is_undone(self):
        for command in RIGHT:
            self.has_no_effect(UnknownName, [command, ('drop', 'none')], [command[0], 'done', 'drop', 'failed'])
            self.has_no_effect(InvalidCommand, [command, ()], [command[0], 'done'])

    def test_items_that_are_no_commands(self):
        ahead = [('put', 'main', '00', 'z'), ('mark', 'y'), ('drop', 'main')]
        told = ['put', 'done', 'mark', 'done', 'drop', 'done']
        for thing in NO_COMMANDS:
            for place in range(4):
                items = ahead[:place] + [thing] + ahead[place:]
                self.has_no_effect(InvalidCommand, items, told[:2 * place])

    def test_an_item_is_looked_at_when_its_turn_comes(self):
        for thing in (None, (), ('batch', []), ('drop',)):
            self.has_no_effect(UnknownName, [('drop', 'none'), thing], ['drop', 'failed'])
            self.has_no_effect(InvalidCommand, [thing, ('drop', 'none')], [])

    def test_arguments_that_are_no_list(self):
        for thing in NO_STRINGS + ('', 'drop', (), (('drop', 'main'),), {'drop': 'main'}, nested(19), ('drop', 'main')):
            if not isinstance(thing, list):
                self.has_no_effect(InvalidCommand, thing, [])

    def test_objects_of_all_kinds_as_arguments(self):
        for thing in NO_STRINGS:
            self.has_no_effect(InvalidName, [('mark', thing)], ['mark', 'failed'])
            self.has_no_effect(UnknownName, [('put', thing, thing, thing)], ['put', 'failed'])
            self.has_no_effect(InvalidPrefix, [('put', 'main', thing, thing)], ['put', 'failed'])
            self.has_no_effect(InvalidMap, [('put', 'main', '', thing)], ['put', 'failed'])
            self.has_no_effect(UnknownRow, [('take', 'main', thing)], ['take', 'failed'])

    def test_lists_are_copied(self):
        rows = {'00': ['z']}
        commands = [('revise', 'main', rows), ('revise', 'main', {'0': ['z']})]
        found = self.board.batch(commands)
        commands.clear()
        rows['00'].clear()
        found.append(5)
        self.assertIsNot(self.board.batch([]), self.board.batch([]))
        self.assertEqual(self.board.table_of('main').lookup('01'), 'z')
        self.assertEqual(self.board.log, ['batch', 'revise', 'done', 'revise', 'done', 'done'] + ['batch', 'done'] * 2)

    def test_a_mark_within_a_batch_that_fails(self):
        self.has_no_effect(UnknownName, [('mark', 'y'), ('back', 'x'), ('drop', 'no')], [
            'mark', 'done', 'back', 'done', 'drop', 'failed'])
        self.board.batch([('mark', 'y'), ('drop', 'main')])
        self.assertEqual(self.board.names, [])
        self.board.back('y')
        self.assertEqual(shown(self.board), self.before)

    def test_a_batch_that_goes_back_and_fails(self):
        self.has_no_effect(UnknownMark, [('back', 'x'), ('put', 'main', '0', 'z'), ('back', 'z')], [
            'back', 'done', 'put', 'done', 'back', 'failed'])

    def test_the_first_obstacle_is_told(self):
        with self.assertRaises(NoSolution) as caught:
            self.board.batch([('put', 'main', '01', 'a'), ('revise', 'main', {'11': [], '0': []})])
        self.assertEqual(caught.exception.leaf, '00')


class DrawnTest(unittest.TestCase):
    """Batches of drawn commands against the same commands one by one."""

    def commands(self, chance):
        plain = PlainBoard()
        plain.tables = {name: [3, {'': 'a', '0': 'b'}, (1, 1, 1), {}, 0] for name in ('main', 'a')}
        return [some_command(chance, plain) for _ in range(chance.randint(1, 6))]

    def test_many_batches(self):
        met = [0, 0]
        for chance in chances(150):
            board, other = made(), made()
            for _ in range(4):
                commands = self.commands(chance)
                if chance.random() < 0.1:
                    commands.insert(chance.randint(0, len(commands)), chance.choice(NO_COMMANDS))
                kept = other.copy()
                done = self.run_both(board, other, commands)
                # Where the batch fails, the next one begins where it began.
                other = other if done else kept
                met[done] += 1
        self.assertGreater(min(met), 40)

    def run_both(self, board, other, commands):
        """Run a batch, and the same commands one by one; return whether all of them are done."""
        before, many = shown(board), len(board.log)
        results, told, error = [], [], None
        for command in commands:
            if any(same(command, thing) for thing in NO_COMMANDS):
                error = InvalidCommand
                break
            word, *arguments = copy.deepcopy(command)
            error, result = ended(lambda: getattr(other, word)(*arguments))
            told += [word, 'failed' if error else 'done']
            if error is not None:
                break
            results.append(result)
        found, answer = ended(lambda: board.batch(commands))
        self.assertIs(found, error)
        self.assertEqual(board.log[many:], ['batch'] + told + ['failed' if error else 'done'])
        if error is None:
            self.assertTrue(same(answer, results))
            self.assertEqual(shown(board), shown(other))
            return True
        self.assertEqual(shown(board), before)
        return False
