"""Points 2, 24 and 25: commands and queries of boards with wrong arguments, one and several at once."""

from keptroutes.board import Board
from keptroutes.errors import (
    DuplicateName, InvalidMap, InvalidName, InvalidPrefix, InvalidPrices, NoSolution, UnknownMark, UnknownName,
    UnknownRow,
)
from tests.plain_board import shown
from tests.samples import (
    INTEGERS, NO_ALLOWED, NO_STRINGS, NO_TARGETS, NO_TEXTS, NO_WIDTHS, RefusingTest, nested, wrong_prefixes,
)

UNKNOWN = NO_TARGETS + ('other', 'mai', 'mainx', 'Main', 'side ', 'x', ['main'], ('main',), {'main': 'main'})
NO_PRICES = NO_TEXTS + ('', '1', '999', 0, 1000, -1, 10 ** 39, -10 ** 39)
# Objects for the arguments behind one that is wrong itself.
ANY = ('main', 'side', '', '1', 2, None, [], {}, {'': ['a']}, nested(18))


class WrongTest(RefusingTest):
    def setUp(self):
        self.board = Board()
        self.board.create('main', 3)
        self.board.put('main', '', 'a')
        self.board.put('main', '10', 'b')
        self.board.lock('main', '10')
        self.board.price('main', adding=2, changing=3, removing=4)
        self.board.create('side', 1)
        self.board.mark('x')
        self.board.mark('main')
        self.board.revise('main', {'0': ['c']})
        self.before = shown(self.board)
        self.many = len(self.board.log)

    def tearDown(self):
        self.check_unchanged()
        # The marks are as they were, too.
        self.board.back('x')
        self.assertEqual(shown(self.board)['main'][1], {'': 'a', '10': 'b'})
        self.board.back('main')

    def check_unchanged(self):
        self.assertEqual(shown(self.board), self.before)

    def wrong(self, error, word, *arguments, **prices):
        """Check that a command fails with this error, changes nothing, and stands in the log."""
        self.refused(error, lambda thing: getattr(self.board, word)(*thing, **prices), arguments)
        self.many += 2
        self.assertEqual(self.board.log[-2:], [word, 'failed'])
        self.assertEqual(len(self.board.log), self.many)
        if self.many % 7 == 0:
            self.check_unchanged()

    def test_create(self):
        for name in NO_TARGETS:
            for width in (2, 0, None, 'a'):
                self.wrong(InvalidName, 'create', name, width)
        for name in ('main', 'side'):
            for width in (2, 3, 33) + NO_TEXTS:
                self.wrong(DuplicateName, 'create', name, width)
        for width in NO_WIDTHS:
            self.wrong(InvalidMap, 'create', 'new', width)

    def test_put(self):
        for name in UNKNOWN:
            for prefix, target in (('1', 'a'), ('1', 'A'), ('2', 'a'), (None, None), ([], {})):
                self.wrong(UnknownName, 'put', name, prefix, target)
        for prefix in wrong_prefixes(3):
            for target in ('a', 'A', None, []):
                self.wrong(InvalidPrefix, 'put', 'main', prefix, target)
        for target in NO_TARGETS:
            for prefix in ('', '10', '111'):
                self.wrong(InvalidMap, 'put', 'main', prefix, target)
        self.wrong(InvalidPrefix, 'put', 'side', '00', 'a')

    def test_rows_that_are_unknown(self):
        for word in ('take', 'lock', 'free'):
            for name in UNKNOWN:
                for prefix in ('', '10', '0', None, []):
                    self.wrong(UnknownName, word, name, prefix)
            for prefix in wrong_prefixes(3) + ('1', '00', '100', '101', '11', '111'):
                self.wrong(UnknownRow, word, 'main', prefix)
            for prefix in ('', '10', '0'):
                self.wrong(UnknownRow, word, 'side', prefix)

    def test_price(self):
        for name in UNKNOWN:
            self.wrong(UnknownName, 'price', name)
            self.wrong(UnknownName, 'price', name, adding=0)
            self.wrong(UnknownName, 'price', name, adding=5, changing=[], removing=None)
        for price in NO_PRICES:
            for word in ('adding', 'changing', 'removing'):
                self.wrong(InvalidPrices, 'price', 'main', **{word: price})
                others = {'adding': 1, 'changing': 999, 'removing': 5}
                self.wrong(InvalidPrices, 'price', 'main', **{**others, word: price})
            self.wrong(InvalidPrices, 'price', 'side', adding=price, changing=price, removing=price)

    def test_revise(self):
        for name in UNKNOWN:
            for rows in ({'': ['a']}, {'': []}, {'2': []}, None, [], 'a'):
                self.wrong(UnknownName, 'revise', name, rows)
        for rows in NO_TEXTS + INTEGERS + ('', 'a', '0', [('0', ['a'])], (('0', ('a',)),)):
            if not isinstance(rows, dict):
                self.wrong(InvalidMap, 'revise', 'main', rows)
        for allowed in NO_ALLOWED:
            for rows in ({'0': allowed}, {'1': ['a'], '': allowed}, {'': allowed, '1': []}):
                self.wrong(InvalidMap, 'revise', 'main', rows)
        for prefix in INTEGERS + ('2', 'a', ' ', '0000', '0' * 33, '0\n', '*', '-'):
            for rows in ({prefix: ['a']}, {'': [], prefix: ['a']}, {prefix: [], '1': []}):
                self.wrong(InvalidMap, 'revise', 'main', rows)
        self.wrong(InvalidMap, 'revise', 'side', {'00': ['a']})

    def test_revise_without_a_solution(self):
        for rows, leaf in (
            ({'': []}, '00'), ({'11': []}, '11'), ({'10': [None]}, '100'), ({'101': [None], '11': []}, '101'),
        ):
            self.wrong(NoSolution, 'revise', 'main', rows)
            with self.assertRaises(NoSolution) as caught:
                self.board.revise('main', rows)
            self.many += 2
            self.assertTrue(caught.exception.leaf.startswith(leaf), caught.exception.leaf)

    def test_drop(self):
        for name in UNKNOWN:
            self.wrong(UnknownName, 'drop', name)

    def test_mark_and_back(self):
        for label in NO_TARGETS:
            self.wrong(InvalidName, 'mark', label)
            self.wrong(UnknownMark, 'back', label)
        for label in ('x', 'main'):
            self.wrong(DuplicateName, 'mark', label)
        for label in ('side', 'y', 'xx', 'X', ['x'], ('x',), {'x': 'x'}):
            self.wrong(UnknownMark, 'back', label)

    def test_objects_of_all_kinds_everywhere(self):
        for thing in NO_STRINGS + (nested(19), '', ' '):
            for other in ANY:
                self.wrong(InvalidName, 'create', thing, other)
                self.wrong(UnknownName, 'put', thing, other, other)
                self.wrong(UnknownName, 'take', thing, other)
                self.wrong(UnknownName, 'lock', thing, other)
                self.wrong(UnknownName, 'free', thing, other)
                self.wrong(UnknownName, 'revise', thing, other)
                self.wrong(UnknownName, 'price', thing, adding=other, changing=other, removing=other)

    def test_queries(self):
        for name in UNKNOWN:
            for action in (self.board.table_of, self.board.prices_of, self.board.spent_on):
                self.refused(UnknownName, action, name)
        self.assertEqual(len(self.board.log), self.many)

    def test_an_empty_board(self):
        board = Board()
        for name in ('main', '', None, []):
            for word, arguments in (
                ('put', ('', 'a')), ('take', ('',)), ('price', ()), ('lock', ('',)), ('free', ('',)), ('revise', ({},)),
                ('drop', ()),
            ):
                self.refused(UnknownName, lambda thing: getattr(board, word)(thing, *arguments), name)
            self.refused(UnknownMark, board.back, name)
        self.assertEqual([board.names, len(board.log)], [[], 64])
