"""Points 2 and 11: texts of tables and wishes."""

import itertools
import unittest

from keptroutes.errors import ParseError
from keptroutes.tables import Table
from keptroutes.texts import format_map, parse_map
from keptroutes.wishes import Wish
from tests.samples import TARGETS, chances, some_table_rows, some_wish_rows

WRITTEN = (
    (Table(1, {}), 'table 1'),
    (Table(32, {}), 'table 32'),
    (Wish(1, {}), 'wish 1'),
    (Wish(10, {}), 'wish 10'),
    (Table.of(2, ('', 'a')), 'table 2\n* a'),
    (Table.of(2, ('10', 'abcdefgh'), ('1', 'b'), ('', 'any')), 'table 2\n* any\n1 b\n10 abcdefgh'),
    (Table.of(3, ('1', 'a'), ('011', 'b'), ('01', 'a'), ('00', 'c')), 'table 3\n00 c\n01 a\n011 b\n1 a'),
    (Wish(2, {'': []}), 'wish 2\n*'),
    (Wish(2, {'': [None]}), 'wish 2\n* -'),
    (Wish(2, {'': ['a']}), 'wish 2\n* a'),
    (Wish(2, {'11': ['c', 'a', None, 'b'], '0': (), '': ('z', 'ab')}), 'wish 2\n* ab z\n0\n11 - a b c'),
    (Wish(3, {'1': [None, 'any'], '000': [None], '0': ['none']}), 'wish 3\n0 none\n000 -\n1 - any'),
    (Table.of(32, ('0' * 32, 'a')), 'table 32\n' + '0' * 32 + ' a'),
)


class ExampleTest(unittest.TestCase):
    def test_example_of_the_document(self):
        self.assertEqual(format_map(Wish(2, {'0': ['b', None], '': []})), 'wish 2\n*\n0 - b')
        with self.assertRaises(ParseError) as caught:
            parse_map('table 2\n0 a\n* b')
        self.assertEqual(caught.exception.line, 2)


class TextTest(unittest.TestCase):
    def check(self, some, text):
        with self.subTest(text):
            self.assertEqual(format_map(some), text)
            found = parse_map(text)
            self.assertIs(type(found), type(some))
            self.assertEqual(found, some)
            self.assertEqual(list(found.walk()), list(some.walk()))

    def check_first_lines(self, some, text):
        """Check the text and each one that ends behind one of its lines."""
        lines = text.split('\n')
        pairs = list(some.walk())
        for many in range(len(lines)):
            self.check(type(some)(some.width, dict(pairs[:many])), '\n'.join(lines[:many + 1]))

    def test_texts_there_and_back(self):
        for some, text in WRITTEN:
            self.check(some, text)
            self.check_first_lines(some, text)

    def test_each_width(self):
        for width in range(1, 33):
            self.check(Table(width, {}), f'table {width}')
            self.check(Wish(width, {'1' * width: []}), f'wish {width}\n' + '1' * width)

    def test_rows_in_any_order(self):
        rows = {'': ['b'], '0': [], '01': [None, 'a'], '1': ['c', 'd']}
        for order in itertools.permutations(rows):
            some = Wish(2, {prefix: rows[prefix][::-1] for prefix in order})
            self.check(some, 'wish 2\n* b\n0\n01 - a\n1 c d')

    def test_many_maps(self):
        for chance in chances(30):
            for width in (1, 2, 5, 31, 32):
                table = Table(width, some_table_rows(chance, width, 10, TARGETS))
                self.check_first_lines(table, format_map(table))
                wish = Wish(width, some_wish_rows(chance, width, 10, TARGETS))
                self.check_first_lines(wish, format_map(wish))

    def test_width_32_with_many_rows(self):
        for chance, many in zip(chances(5), (40, 41, 60, 80, 100)):
            table = Table(32, some_table_rows(chance, 32, many, TARGETS))
            self.check_first_lines(table, format_map(table))
            wish = Wish(32, some_wish_rows(chance, 32, many, TARGETS))
            self.check_first_lines(wish, format_map(wish))

    def test_maps_stay(self):
        wish = Wish(2, {'1': ['b', None], '': []})
        format_map(wish)
        self.assertEqual(wish.rows, {'': (), '1': (None, 'b')})

    def test_arguments_by_name(self):
        self.assertEqual(format_map(some=Table(3, {})), 'table 3')
        self.assertEqual(parse_map(text='wish 3\n0'), Wish(3, {'0': []}))
