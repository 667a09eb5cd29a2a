"""Points 2 and 26: lines that are none, and lines that raise errors."""

from keptroutes.errors import (
    DuplicateName, InvalidAddress, InvalidLine, InvalidMap, InvalidName, InvalidPrefix, InvalidPrices, NoSolution,
    UnknownMark, UnknownName, UnknownRow,
)
from keptroutes.shell import Shell
from tests.samples import NO_STRINGS, RefusingTest, nested

# Lines whose words are right, whatever the board says of them.
RIGHT = (
    'create main 2', 'put main * a', 'take main *', 'price main 1 1 1', 'lock main *', 'free main *', 'drop main',
    'mark x', 'back x', 'wish main *', 'wish main * a', 'wish main * - a b', 'show main', 'find main 11', 'spent main',
    'names',
)
NO_NUMBERS = (
    '00', '01', '001', '000', '012', '+1', '-1', '-0', '+0', '1000', '1234', '9999', '0001', '0999', '1.', '1.0', '1e1',
    '0x1', '1_0', '1_', '_1', 'two', 'a', '*', '-', '1a', 'a1', '1\t', '\t1', '1\n', '\n1', '1\t1', '1,', '1/', '1:',
    '0' * 1000, '1' * 1000, '9' * 5000, '0' * 4999 + '1', '1' * 4301, "'1'", 'None', 'True', '~', '/', ':',
)
FIRST_WORDS = (
    'Create', 'CREATE', 'creates', 'creat', 'revise', 'batch', 'log', 'copy', 'names_', 'name', 'Names', 'help', 'undo',
    'table_of', 'prices_of', 'spent_on', 'run', 'x', '1', '*', '-', '__init__', 'create\t', '\tcreate', 'create\n',
    '\nnames', 'names\n', 'names\t', 'create\tmain', 'show\tmain', 'put,', 'table', 'wish\n', 'drop\tmain', 'a' * 3000,
)


class ShellTest(RefusingTest):
    def setUp(self):
        self.shell = Shell()
        for line in ('create main 3', 'put main * a', 'put main 10 b', 'lock main 10', 'price main 2 3 4', 'mark x',
                     'create side 1', 'wish main 0 c'):
            self.shell.run(line)
        self.before = self.shown()

    def tearDown(self):
        self.assertEqual(self.shown(), self.before)
        # The only mark is x, and what it restores is as it was.
        self.refused(UnknownMark, self.shell.run, 'back y')
        self.shell.run('back x')
        self.assertEqual([self.shell.run('names'), self.shell.run('show main')], ['main', 'table 3 / * a / 10 b'])

    def shown(self):
        asked = ('names', 'show main', 'show side', 'spent main', 'spent side', 'find main 100', 'find side 1')
        return [self.shell.run(line) for line in asked]

    def wrong(self, error, *lines):
        for line in lines:
            self.refused(error, self.shell.run, line)


class InvalidLineTest(ShellTest):
    def test_objects_that_are_no_strings(self):
        self.wrong(InvalidLine, *NO_STRINGS)
        self.wrong(InvalidLine, ['names'], ('names',), {'names': 'names'}, [['drop', 'main']], nested(20))

    def test_the_empty_line_and_blanks(self):
        self.wrong(InvalidLine, '', ' ', '  ', '\t', '\n', ' \n', '\t ', ' ' * 5000, '\n' * 5000)
        for line in RIGHT:
            self.wrong(InvalidLine, ' ' + line, line + ' ', '  ' + line, line + '  ', ' ' + line + ' ')
            if ' ' in line:
                self.wrong(InvalidLine, line.replace(' ', '  '), line.replace(' ', '  ', 1))
                self.wrong(InvalidLine, '  '.join(line.rsplit(' ', 1)))
                self.wrong(InvalidLine, line.replace(' ', '\t'), line.replace(' ', '\n'))

    def test_too_few_words(self):
        for line in RIGHT:
            words = line.split(' ')
            least = 3 if words[0] == 'wish' else len(words)
            for many in range(1, least):
                self.wrong(InvalidLine, ' '.join(words[:many]))
            if least > 1:
                # One word less, with a tab or a line feed instead of the blank.
                self.wrong(InvalidLine, ' '.join(words[:least - 2] + ['\t'.join(words[least - 2:least])]))

    def test_too_many_words(self):
        for line in RIGHT:
            if not line.startswith('wish'):
                for more in ('a', '1', '*', '-', 'a b', '\t', '\n', 'x ' * 800 + 'x'):
                    self.wrong(InvalidLine, f'{line} {more}')

    def test_numbers(self):
        for word in NO_NUMBERS:
            for name in ('main', 'new', 'NEW', '*'):
                self.wrong(InvalidLine, f'create {name} {word}', f'price {name} {word} 1 1', f'price {name} 1 {word} 1',
                           f'price {name} 1 1 {word}', f'price {name} 0 0 {word}', f'price {name} {word} {word} {word}')

    def test_each_sign_at_each_place_of_a_number(self):
        for sign in [chr(number) for number in range(33, 127)] + ['\t', '\n']:
            if sign not in '0123456789':
                for word in (sign, sign + '1', '1' + sign, '1' + sign + '1', sign + sign, '12' + sign, sign * 4):
                    self.wrong(InvalidLine, f'create new {word}', f'price main 1 1 {word}')

    def test_first_words(self):
        for word in FIRST_WORDS:
            for rest in ('', ' main', ' main 1', ' main 1 a', ' main 1 1 1', ' main 1 1 1 1'):
                self.wrong(InvalidLine, word + rest)

    def test_invalid_lines_come_before_all_other_errors(self):
        self.wrong(InvalidLine, 'create main 01', 'create MAIN 1 1', 'create main', 'create - 1000', 'put none 2',
                   'put none 2 A b', 'take none', 'take none 1 1', 'price none 1 1', 'price none 0 0 01', 'lock none',
                   'free none 1 a', 'drop', 'drop none none', 'mark', 'mark x x', 'mark X X', 'back', 'back y y',
                   'wish', 'wish none', 'wish main', 'show', 'show none none', 'find none', 'find none 1 1', 'spent',
                   'spent none none', 'names none', 'names main')


class ErrorTest(ShellTest):
    def test_create(self):
        for name in ('Main', 'a1', 'abcdefghi', '*', '-', '1', 'main\n', '\tmain', 'ma\tin', '\n', 'a' * 5000, 'm,'):
            self.wrong(InvalidName, f'create {name} 2', f'create {name} 0', f'create {name} 999', f'mark {name}')
        for width in ('2', '3', '0', '33', '999'):
            self.wrong(DuplicateName, f'create main {width}', f'create side {width}')
        for width in ('0', '33', '34', '64', '100', '999'):
            self.wrong(InvalidMap, f'create new {width}')

    def test_unknown_names(self):
        for name in ('none', 'mai', 'mainn', 'Main', '*', '-', 'main\n', '\nmain', 'main\t', '1', 'x', 'a' * 5000):
            self.wrong(
                UnknownName, f'put {name} 1 a', f'put {name} 2 A', f'take {name} *', f'take {name} 2',
                f'price {name} 1 1 1', f'price {name} 0 0 0', f'lock {name} *', f'lock {name} 2', f'free {name} *',
                f'free {name} x', f'drop {name}', f'wish {name} 1 a', f'wish {name} 2 A', f'wish {name} *',
                f'show {name}', f'find {name} 111', f'find {name} 2', f'find {name} *', f'spent {name}')

    def test_put(self):
        for prefix in ('2', '-', '**', '*0', '0*', '0000', 'a', '1\n', '\t1', '0' * 5000, '""', '()', 'None'):
            self.wrong(InvalidPrefix, f'put main {prefix} a', f'put main {prefix} A', f'put main {prefix} -')
        for target in ('A', '-', '*', 'abcdefghi', 'a1', '1', 'a\n', '\ta', 'a\tb', '--', 'a' * 5000):
            self.wrong(InvalidMap, f'put main 1 {target}', f'put main * {target}', f'put main 10 {target}')

    def test_rows_that_are_unknown(self):
        for prefix in ('1', '00', '2', '-', '**', '0000', '10\n', 'a', '0' * 5000):
            self.wrong(UnknownRow, f'take main {prefix}', f'lock main {prefix}', f'free main {prefix}')
        self.wrong(UnknownRow, 'take side *', 'lock side *', 'free side *', 'take side -')

    def test_prices(self):
        self.wrong(InvalidPrices, 'price main 0 1 1', 'price main 1 0 1', 'price main 1 1 0', 'price side 0 0 0',
                   'price main 999 999 0')

    def test_wishes(self):
        for prefix in ('2', '-', '**', '0000', 'a', '1\n', '\t', '0' * 5000):
            self.wrong(InvalidMap, f'wish main {prefix} a', f'wish main {prefix}', f'wish main {prefix} A')
        for targets in ('A', '*', '--', 'a a', '- -', 'a b a', '- a -', 'a -b', 'a,b', 'a\n', '\tb', 'abcdefghi', '1',
                        'a 1', 'a' * 5000, 'a ' * 2000 + 'a'):
            self.wrong(InvalidMap, f'wish main 1 {targets}', f'wish main * {targets}', f'wish side * {targets}')
        self.wrong(NoSolution, 'wish main 1', 'wish main *', 'wish main 000', 'wish main 10 -', 'wish main * -',
                   'wish side *', 'wish side 1')

    def test_first_obstacles(self):
        for line, leaf in (('wish main 11', '11'), ('wish main 101', '101'), ('wish main 10 -', '100'),
                           ('wish side *', ''), ('wish side 1', '1'), ('wish side 0', '0')):
            with self.assertRaises(NoSolution) as caught:
                self.shell.run(line)
            self.assertTrue(caught.exception.leaf.startswith(leaf))

    def test_marks(self):
        self.wrong(DuplicateName, 'mark x')
        self.wrong(UnknownMark, 'back main', 'back side', 'back y', 'back X', 'back *', 'back -', 'back x\n')

    def test_find(self):
        for word in ('*', '-', '0', '00', '0000', '2', '1a1', 'abc', '111\n', '\t11', '1\t1', '0' * 5000):
            self.wrong(InvalidAddress, f'find main {word}')
            self.wrong(UnknownName, f'find none {word}')
        self.wrong(InvalidAddress, 'find side 11', 'find side *')

    def test_words_with_tabs_and_line_feeds(self):
        self.wrong(UnknownName, 'show main\n', 'show \n', 'drop main\tside', 'spent \tmain')
        self.wrong(InvalidAddress, 'find main \n', 'find main \t', 'find main 111\t111')
        self.wrong(InvalidPrefix, 'put main \n a', 'put main \t\n\t a')
        self.wrong(InvalidMap, 'put main 1 \n', 'wish main 1 \n', 'wish main 1 a \t b')
        self.wrong(InvalidName, 'mark \n', 'mark a\nb', 'create \t 1')
