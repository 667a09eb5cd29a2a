"""Points 2 and 24: marks of boards."""

import unittest

from keptroutes.board import Board
from keptroutes.errors import DuplicateName, UnknownMark, UnknownName
from tests.plain_board import shown
from tests.samples import raises


class MarkTest(unittest.TestCase):
    def setUp(self):
        self.board = Board()
        self.board.create('main', 2)
        self.board.put('main', '', 'a')
        self.board.lock('main', '')
        self.board.price('main', adding=4)
        self.board.revise('main', {'1': ['b']})

    def test_everything_is_restored(self):
        before = shown(self.board)
        self.assertEqual(before, {'main': [2, {'': 'a', '1': 'b'}, (4, 1, 1), {'': None}, 4]})
        self.board.mark('x')
        for action in (
            lambda: self.board.put('main', '', 'c'), lambda: self.board.take('main', ''),
            lambda: self.board.free('main', ''), lambda: self.board.price('main', changing=7),
            lambda: self.board.lock('main', '1'), lambda: self.board.revise('main', {'01': ['z'], '00': ['a']}),
            lambda: self.board.drop('main'), lambda: self.board.create('side', 1),
        ):
            action()
            self.assertNotEqual(shown(self.board), before)
            for _ in range(2):
                self.assertIsNone(self.board.back('x'))
                self.assertEqual(shown(self.board), before)

    def test_any_number_of_times_and_marks(self):
        states = []
        for number in range(6):
            self.board.put('main', '0', 'pqrstu'[number])
            if number == 3:
                self.board.drop('main')
                self.board.create('side', 3)
                self.board.create('main', 5)
            self.board.mark('mark' + 'abcdef'[number])
            states.append(shown(self.board))
        for number in (0, 5, 5, 2, 3, 1, 0, 4, 5):
            self.board.back('mark' + 'abcdef'[number])
            self.assertEqual(shown(self.board), states[number])
            self.board.put('main', '11', 'z')

    def test_marks_stay_behind_back(self):
        self.board.mark('x')
        self.board.put('main', '0', 'c')
        self.board.mark('y')
        later = shown(self.board)
        self.board.back('x')
        # The mark that is later than what is restored is still there.
        raises(self, DuplicateName, lambda: self.board.mark('y'))
        self.board.back('y')
        self.assertEqual(shown(self.board), later)
        raises(self, DuplicateName, lambda: self.board.mark('x'))

    def test_tables_created_and_dropped_in_between(self):
        self.board.create('other', 7)
        self.board.mark('x')
        self.board.drop('other')
        self.board.drop('main')
        self.board.create('new', 1)
        self.board.create('other', 2)
        self.board.put('other', '', 'z')
        self.board.mark('y')
        self.board.back('x')
        self.assertEqual([self.board.names, shown(self.board)['other']], [
            ['main', 'other'], [7, {}, (1, 1, 1), {}, 0]])
        raises(self, UnknownName, lambda: self.board.drop('new'))
        self.board.back('y')
        self.assertEqual([self.board.names, shown(self.board)['other']], [
            ['new', 'other'], [2, {'': 'z'}, (1, 1, 1), {}, 0]])

    def test_labels_and_names_are_independent(self):
        self.board.mark('main')
        self.board.create('x', 1)
        self.board.mark('x')
        self.board.drop('main')
        raises(self, DuplicateName, lambda: self.board.mark('main'))
        self.board.create('main', 8)
        self.board.back('main')
        self.assertEqual([self.board.names, shown(self.board)['main'][0]], [['main'], 2])
        raises(self, UnknownMark, lambda: self.board.back('side'))
        self.board.create('side', 1)
        raises(self, UnknownMark, lambda: self.board.back('side'))
        self.board.mark('side')

    def test_a_board_without_tables(self):
        board = Board()
        raises(self, UnknownMark, lambda: board.back('x'))
        board.mark('x')
        board.create('main', 1)
        board.mark('y')
        board.back('x')
        self.assertEqual(board.names, [])
        board.back('y')
        self.assertEqual(board.names, ['main'])
        board.back('x')
        self.assertEqual([board.names, board.log[-2:]], [[], ['back', 'done']])

    def test_locks_come_back(self):
        self.board.mark('x')
        self.board.take('main', '')
        self.board.put('main', '', 'a')
        self.assertEqual(self.board.prices_of('main').single, {})
        self.board.back('x')
        self.assertEqual(self.board.prices_of('main').single, {'': None})
        self.assertEqual(self.board.revise('main', {'': ['z']}), 4 + 1)

    def test_amounts_go_on_from_what_is_restored(self):
        self.board.mark('x')
        self.board.revise('main', {'1': ['c']})
        self.assertEqual(self.board.spent_on('main'), 5)
        self.board.back('x')
        self.assertEqual(self.board.spent_on('main'), 4)
        self.board.revise('main', {'1': ['d']})
        self.assertEqual(self.board.spent_on('main'), 5)
