"""Point 11: texts that are none, and the first line that is wrong."""

import re
import unittest

from keptroutes.errors import ParseError
from keptroutes.tables import Table
from keptroutes.texts import format_map, parse_map
from keptroutes.wishes import Wish
from tests.samples import NO_STRINGS, TARGETS, chances, kept_as_it_was, some_table_rows, some_wish_rows

LONG = 5000
# Signs that Python's own functions take for blanks or for the ends of lines, and some others.
SIGNS = ('\t', '\r', '\x0b', '\x0c', '\x1c', '\x1d', '\x1e', '\x1f', '\x85', '\xa0', '\u2003', '\u2028', '\u2029', '\0')
FIRST_LINES = (
    '', ' ', 'table', 'wish', 'table ', 'wish ', ' table 2', ' wish 2', 'table 2 ', 'wish 2 ', 'table  2', 'wish  2',
    'Table 2', 'WISH 2', 'tables 2', 'tabl 2', 'wish2', 'table2', 'map 2', '2', '2 table', 'table table', 'table 2 2',
    'wish 2 a', 'table 0', 'wish 0', 'table 33', 'wish 33', 'table 02', 'wish 01', 'table 00', 'table +2', 'wish -2',
    'table -0', 'table 2.', 'table 2.0', 'table 1e1', 'table 0x2', 'table 1_0', 'wish two', 'table *', 'wish -',
    'table ' + '0' * LONG, 'table ' + '1' * LONG, 'wish ' + '2' * LONG, 'wish ' + '0' * LONG + '2', 'a' * LONG,
    'table' * LONG, 'table ' + 'a' * LONG, 'table 2' + ' ' * LONG, 'table 64', 'table 100', 'table \u0662', '\u00b2',
) + tuple('table 2' + sign for sign in SIGNS) + tuple(sign + 'wish 2' for sign in SIGNS) + tuple(
    'table' + sign + '2' for sign in SIGNS) + tuple('wish ' + sign + '2' for sign in SIGNS)
# Lines that are wrong as rows of tables and of wishes of width 3, wherever they stand.
ROWS = (
    '', ' ', '  ', ' 0', ' 0 a', '0  a', '0 a ', '0 ', '* ', ' * a', '*  a', '- a', '-', 'a', 'a a', '2 a', '0000 a',
    '0101 a', '02 a', '0* a', '** a', '*0 a', '0 A', '0 a1', '0 1', '0 *', '0 --', '0 -a', '0 abcdefghi', '0 a,b',
    '0 None', 'None a', '0,a', '0:a', '0=a', "'0' a", '0 a b a', '0 b a', '0 a a', '0 - -', '0 a -', '0 a - b',
    '0 - b a', '0 a  b', '0' * LONG, '0' * LONG + ' a', '0 ' + 'a' * LONG, '0' + ' a' * LONG, ' ' * LONG, 'table 3',
    'wish 3', '0 a' + ' ' * LONG, '0 -' + ' -' * LONG, '+0 a', '0_0 a', '\u0660 a', '0 \u00e4',
) + tuple('0 a' + sign for sign in SIGNS) + tuple(sign + '0 a' for sign in SIGNS) + tuple(
    '0' + sign + 'a' for sign in SIGNS) + tuple('0 ' + sign for sign in SIGNS) + tuple(
    '0 a' + sign + 'b' for sign in SIGNS) + tuple('0 a' + sign + '1 b' for sign in SIGNS)
# These are rows of a wish, but not of a table.
TABLE_ROWS = ('*', '0', '0 -', '* -', '0 a b', '0 - a', '0 a b c', '* - a b')


def line_of(test, thing):
    """Return the line that ParseError tells for the object."""
    with test.assertRaises(ParseError) as caught:
        parse_map(thing)
    test.assertIs(caught.exception.__class__, ParseError)
    test.assertIs(type(caught.exception.line), int)
    return caught.exception.line


def is_text(text):
    """Return True if the text is that of a table or a wish, read by patterns."""
    head, *rows = text.split('\n')
    if not re.fullmatch('(table|wish) ([1-9]|[12][0-9]|3[0-2])', head):
        return False
    word, width = head.split(' ')
    target = '[a-z]{1,8}'
    values = f' {target}' if word == 'table' else f'( -)?( {target})*'
    starts = []
    for row in rows:
        if not re.fullmatch(f'(\\*|[01]{{1,{width}}})({values})', row):
            return False
        start, *targets = row.split(' ')
        if any(one >= two for one, two in zip(targets, targets[1:])):
            return False
        starts.append('' if start == '*' else start)
    return all(one < two for one, two in zip(starts, starts[1:]))


def first_wrong_line(text):
    """Return the index of the first line with which the text is none any more, or None."""
    lines = text.split('\n')
    for index in range(len(lines)):
        if not is_text('\n'.join(lines[:index + 1])):
            return index
    return None


class WrongTextTest(unittest.TestCase):
    def wrong(self, text, line):
        with self.subTest(text=repr(text)[:80]):
            self.assertEqual(line_of(self, text), line)

    def test_objects_that_are_no_strings(self):
        for thing in NO_STRINGS:
            self.assertEqual(kept_as_it_was(self, thing, lambda: line_of(self, thing)), 0)
        for thing in (['table 2'], ('wish 2',), {'table 2': 'a'}, Table(2, {}), b'table 2'):
            self.assertEqual(line_of(self, thing), 0)

    def test_first_lines(self):
        for head in FIRST_LINES:
            self.wrong(head, 0)
            self.wrong(head + '\n0 a', 0)
            self.wrong(head + '\n', 0)
            self.wrong(head + '\n' + head, 0)

    def test_rows_at_each_place(self):
        for word in ('table', 'wish'):
            for row in ROWS + (TABLE_ROWS if word == 'table' else ()):
                self.wrong(f'{word} 3\n{row}', 1)
                self.wrong(f'{word} 3\n{row}\n1 b', 1)
                self.wrong(f'{word} 3\n{row}\n\n', 1)
                self.wrong(f'{word} 3\n* a\n{row}', 2)
                self.wrong(f'{word} 3\n* a\n{row}\n1 b\n11 c', 2)
                self.wrong(f'{word} 3\n* a\n00 b\n001 c\n{row}', 4)

    def test_rows_of_wishes(self):
        for row in TABLE_ROWS:
            self.assertIsInstance(parse_map(f'wish 3\n{row}'), Wish)

    def test_line_feeds(self):
        for text in ('table 3', 'wish 3', 'table 3\n0 a', 'wish 3\n*\n0 a'):
            many = text.count('\n') + 1
            self.wrong(text + '\n', many)
            self.wrong(text + '\n\n', many)
            self.wrong(text + '\n\n1 a', many)
            self.wrong('\n' + text, 0)
            self.wrong(text + '\r\n1 a', many - 1)
        self.wrong('table 3\n\n0 a\n1 b', 1)

    def test_rows_that_do_not_ascend(self):
        for one, two in (
            ('0', '*'), ('*', '*'), ('0', '0'), ('1', '0'), ('1', '01'), ('01', '0'), ('001', '00'), ('111', '110'),
            ('111', '11'), ('1', '000'),
        ):
            for word in ('table', 'wish'):
                self.wrong(f'{word} 3\n{one} a\n{two} a', 2)
                self.wrong(f'{word} 3\n{one} a\n{two} b\n111 c', 2)
            self.wrong(f'wish 3\n{one}\n{two} -', 2)
        self.wrong('table 3\n* a\n0 a\n1 a\n01 a\n1 b', 4)
        self.wrong('table 3\n* a\n0 a\n1 a\n1 a', 4)

    def test_prefixes_that_are_too_long_by_one(self):
        for width in range(1, 33):
            for word in ('table', 'wish'):
                self.assertEqual(len(parse_map(f'{word} {width}\n' + '1' * width + ' a')), 1)
                self.wrong(f'{word} {width}\n' + '1' * (width + 1) + ' a', 1)
                self.wrong(f'{word} {width}\n* a\n' + '0' * (width + 1) + ' a', 2)

    def test_width_32_and_a_wrong_last_line(self):
        for chance in chances(4):
            for some in (Table(32, some_table_rows(chance, 32, 60, TARGETS)),
                         Wish(32, some_wish_rows(chance, 32, 60, TARGETS))):
                text = format_map(some)
                many = len(some) + 1
                self.assertGreater(many, 40)
                for row in ('', '*', '* a', '0' * 33 + ' a', '1' * 32 + ' A', '1' * 32 + ' b a', text.split('\n')[-1]):
                    self.wrong(text + '\n' + row, many)
                self.wrong(text + ' ', many - 1)
                self.wrong(text + '\t', many - 1)


class ChangedTextTest(unittest.TestCase):
    """Texts in which one sign was left out, replaced or added."""

    def check(self, text):
        line = first_wrong_line(text)
        with self.subTest(text=text):
            if line is None:
                self.assertEqual(format_map(parse_map(text)), text)
            else:
                self.assertEqual(line_of(self, text), line)

    def test_one_sign(self):
        for text in ('table 3\n* a\n0 b\n010 ab', 'wish 12\n* - a\n0\n00 b z\n1 -', 'table 31', 'wish 2\n*\n11 a'):
            self.check(text)
            for place in range(len(text) + 1):
                self.check(text[:place] + text[place + 1:])
                for sign in ' \n\t\r012399abzA*-+.':
                    self.check(text[:place] + sign + text[place:])
                    self.check(text[:place] + sign + text[place + 1:])

    def test_lines_in_any_order(self):
        for chance in chances(200):
            lines = ['wish 3', 'table 3', '* a', '0 a', '0 b', '00 a', '1 a', '1 - a', '1', '11 a b', '']
            self.check('\n'.join([chance.choice(lines[:2])] + chance.sample(lines[2:] + lines[2:], 4)))
