"""Points 2 and 26: lines of the shell."""

import unittest

from keptroutes.board import Board
from keptroutes.errors import NoSolution
from keptroutes.shell import Shell
from keptroutes.tables import Table
from keptroutes.texts import format_map
from tests.plain_board import PlainBoard, ended, shown, some_command
from tests.samples import RefusingTest, addresses, chances, raises, same


class ExampleTest(unittest.TestCase):
    def test_example_of_the_document(self):
        shell = Shell()
        found = [shell.run('create main 1'), shell.run('put main * a'), shell.run('lock main *'),
                 shell.run('wish main 1 b')]
        self.assertEqual(found, ['ok', 'ok', 'ok', '1'])
        self.assertEqual([shell.run('show main'), shell.run('find main 1')], ['table 1 / * a / 1 b', 'b'])


class ShellTest(RefusingTest):
    def setUp(self):
        self.shell = Shell()

    def say(self, *pairs):
        """Check what lines return."""
        for line, expected in pairs:
            with self.subTest(line):
                found = self.shell.run(line)
                self.assertIs(type(found), str)
                self.assertEqual(found, expected)

    def test_create_and_drop(self):
        self.say(('names', '-'), ('create main 1', 'ok'), ('names', 'main'), ('create a 32', 'ok'), ('names', 'a main'),
                 ('create abcdefgh 9', 'ok'), ('names', 'a abcdefgh main'), ('drop a', 'ok'),
                 ('names', 'abcdefgh main'), ('show main', 'table 1'), ('show abcdefgh', 'table 9'),
                 ('drop main', 'ok'), ('drop abcdefgh', 'ok'), ('names', '-'))

    def test_all_widths(self):
        for width in range(1, 33):
            self.say((f'create w {width}', 'ok'), ('show w', f'table {width}'), (f'find w {"0" * width}', '-'),
                     (f'put w {"1" * width} a', 'ok'), (f'show w', f'table {width} / {"1" * width} a'),
                     (f'find w {"1" * width}', 'a'), ('drop w', 'ok'))

    def test_put_and_take(self):
        self.say(('create main 3', 'ok'), ('put main * a', 'ok'), ('put main 10 abcdefgh', 'ok'),
                 ('put main 0 b', 'ok'), ('show main', 'table 3 / * a / 0 b / 10 abcdefgh'), ('put main 0 c', 'ok'),
                 ('show main', 'table 3 / * a / 0 c / 10 abcdefgh'), ('take main *', 'ok'), ('take main 10', 'ok'),
                 ('show main', 'table 3 / 0 c'), ('find main 000', 'c'), ('find main 111', '-'))

    def test_prices(self):
        self.say(('create main 2', 'ok'), ('put main 1 b', 'ok'), ('price main 999 5 1', 'ok'),
                 ('wish main 1 c', '5'), ('price main 7 9 2', 'ok'), ('wish main 10 d', '7'), ('wish main 1 -', '4'),
                 ('spent main', '16'), ('show main', 'table 2'), ('price main 1 1 1', 'ok'), ('wish main * z', '1'),
                 ('spent main', '17'), ('show main', 'table 2 / * z'))

    def test_lock_and_free(self):
        self.say(('create main 2', 'ok'), ('put main * a', 'ok'), ('put main 1 b', 'ok'), ('price main 9 1 1', 'ok'),
                 ('lock main 1', 'ok'), ('wish main 1 c', '18'), ('free main 1', 'ok'), ('wish main 1 d e', '2'),
                 ('lock main *', 'ok'), ('put main * q', 'ok'), ('take main *', 'ok'), ('put main * q', 'ok'),
                 ('wish main 0 r', '1'))

    def test_wishes_of_all_kinds(self):
        self.say(('create main 2', 'ok'), ('wish main * -', '0'), ('wish main 1 - a', '0'), ('wish main 1 a -', '0'),
                 ('wish main 1 a', '1'), ('wish main 10 c b', '1'))
        self.assertIn(self.shell.run('find main 10'), ('b', 'c'))
        with self.assertRaises(NoSolution) as caught:
            self.shell.run('wish main 1')
        self.assertEqual(caught.exception.leaf, '10')
        with self.assertRaises(NoSolution) as caught:
            self.shell.run('wish main *')
        self.assertTrue(caught.exception.leaf.startswith('0'))
        self.say(('wish main * - ' + ' '.join('abcdefghijklmnopqrstuvwxyz'), '0'), ('spent main', '2'))

    def test_marks(self):
        self.say(('mark x', 'ok'), ('create main 2', 'ok'), ('put main * a', 'ok'), ('wish main 1 b', '1'),
                 ('mark main', 'ok'), ('drop main', 'ok'), ('create side 1', 'ok'), ('back main', 'ok'),
                 ('names', 'main'), ('show main', 'table 2 / * a / 1 b'), ('spent main', '1'), ('back x', 'ok'),
                 ('names', '-'), ('back main', 'ok'), ('names', 'main'))

    def test_find(self):
        self.say(('create main 3', 'ok'), ('put main 0 a', 'ok'), ('put main 011 b', 'ok'))
        for address in addresses(3):
            expected = 'b' if address == '011' else 'a' if address[0] == '0' else '-'
            self.say((f'find main {address}', expected))

    def test_words_that_look_like_others(self):
        # Names may be words of the shell.
        self.say(('create show 1', 'ok'), ('create names 2', 'ok'), ('put names * none', 'ok'), ('mark mark', 'ok'),
                 ('names', 'names show'), ('show names', 'table 2 / * none'), ('show show', 'table 1'),
                 ('find names 11', 'none'), ('spent show', '0'), ('back mark', 'ok'), ('drop show', 'ok'))

    def test_numbers(self):
        for number in (1, 9, 10, 99, 100, 999):
            self.say((f'create n 1', 'ok'), (f'price n {number} {number} {number}', 'ok'),
                     ('wish n * a', str(number)), ('spent n', str(number)), ('wish n * b', str(number)),
                     ('wish n * -', str(number)), ('spent n', str(3 * number)), ('drop n', 'ok'))

    def test_amounts_of_many_digits(self):
        self.say(('create main 5', 'ok'), ('price main 999 999 999', 'ok'))
        for number in range(12):
            self.say((f'wish main * {"ab"[number % 2]}', '999'))
        self.say(('spent main', str(12 * 999)))

    def test_two_shells_are_independent(self):
        other = Shell()
        self.say(('create main 2', 'ok'), ('put main * a', 'ok'), ('mark x', 'ok'))
        self.assertEqual(other.run('names'), '-')
        self.assertEqual(other.run('create main 3'), 'ok')
        self.assertEqual(other.run('put main 1 b'), 'ok')
        self.assertEqual(other.run('mark x'), 'ok')
        self.say(('show main', 'table 2 / * a'), ('drop main', 'ok'), ('back x', 'ok'), ('show main', 'table 2 / * a'))
        self.assertEqual(other.run('show main'), 'table 3 / 1 b')

    def test_arguments_by_name(self):
        self.assertEqual(self.shell.run(line='create main 2'), 'ok')
        self.assertEqual(self.shell.run(line='names'), 'main')


def line_of(command):
    """Return the line for a command of a board."""
    word, *arguments = command
    words = ['wish' if word == 'revise' else word, arguments[0]]
    for argument in arguments[1:]:
        if isinstance(argument, dict):
            for prefix, allowed in argument.items():
                words += [prefix or '*'] + ['-' if target is None else target for target in allowed]
        else:
            words.append('*' if argument == '' else str(argument))
    return ' '.join(words + ['1', '1', '1'] if word == 'price' else words)


class DrawnTest(unittest.TestCase):
    """Lines against the commands of a board."""

    def test_many_lines(self):
        met = [0, 0]
        for chance in chances(80):
            shell, board, plain = Shell(), Board(), PlainBoard()
            for _ in range(30):
                command = some_command(chance, plain)
                word, *arguments = command
                line = line_of(command)
                error, result = ended(lambda: getattr(board, word)(*arguments))
                found, said = ended(lambda: shell.run(line))
                with self.subTest(line):
                    self.assertIs(found, error)
                    if error is None:
                        self.assertEqual(said, str(result) if word == 'revise' else 'ok')
                met[error is None] += 1
                plain.tables = {name: list(parts) for name, parts in shown(board).items()}
                self.compare(shell, board)
        self.assertGreater(min(met), 400)

    def compare(self, shell, board):
        """Check that a shell shows just what a board holds."""
        self.assertEqual(shell.run('names'), ' '.join(board.names) or '-')
        for name in board.names:
            table = board.table_of(name)
            text = shell.run(f'show {name}')
            self.assertEqual(text, format_map(table).replace('\n', ' / '))
            self.assertEqual(shell.run(f'spent {name}'), str(board.spent_on(name)))
            for bit in '01':
                address = bit * table.width
                self.assertEqual(shell.run(f'find {name} {address}'), table.lookup(address) or '-')


class LargeTest(unittest.TestCase):
    def test_a_hundred_rows(self):
        shell = Shell()
        shell.run('create main 32')
        rows = {}
        for number, address in enumerate(addresses(7)[:100]):
            rows[address + '01'] = 'abcde'[number % 5]
            self.assertEqual(shell.run(f'put main {address}01 {"abcde"[number % 5]}'), 'ok')
        self.assertEqual(shell.run('show main'), ' / '.join(['table 32'] + [
            f'{prefix} {target}' for prefix, target in rows.items()]))
        self.assertTrue(same(Table(32, rows).rows, rows))
        self.assertEqual(shell.run('price main 1 2 1'), 'ok')
        self.assertEqual(shell.run('wish main * z'), '101')
        self.assertEqual(shell.run('show main'), 'table 32 / * z')
        raises(self, NoSolution, lambda: shell.run('wish main 1'))
