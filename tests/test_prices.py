"""Points 2 and 13: prices."""

import itertools
import unittest

from keptroutes.errors import InvalidPrices
from keptroutes.tasks import Prices
from tests.samples import NO_BITS, NO_STRINGS, NO_TEXTS, kept_as_it_was, raises

NAMES = ('adding', 'changing', 'removing')
NO_INTEGERS = NO_TEXTS + ('', '1', '5', 'a', '999', '-')
WRONG = NO_INTEGERS + (0, 1000, -1, -999, 1001, 10 ** 39, -10 ** 39)


def shown(prices):
    """Return what the properties say."""
    return [prices.adding, prices.changing, prices.removing, prices.single]


class PricesTest(unittest.TestCase):
    def test_none_some_and_all_of_the_arguments(self):
        self.assertEqual(shown(Prices()), [1, 1, 1, {}])
        self.assertEqual(shown(Prices(adding=2)), [2, 1, 1, {}])
        self.assertEqual(shown(Prices(changing=3)), [1, 3, 1, {}])
        self.assertEqual(shown(Prices(removing=4)), [1, 1, 4, {}])
        self.assertEqual(shown(Prices(removing=4, adding=2)), [2, 1, 4, {}])
        self.assertEqual(shown(Prices(removing=4, changing=3, adding=2)), [2, 3, 4, {}])

    def test_all_prices(self):
        for price in range(1, 1000):
            self.assertEqual(shown(Prices(adding=price)), [price, 1, 1, {}])
            self.assertEqual(shown(Prices(changing=price, removing=1000 - price)), [1, price, 1000 - price, {}])
            self.assertEqual(Prices().with_row('0', price).single, {'0': price})

    def test_by_name_only(self):
        for arguments in ((1,), (1, 2), (1, 2, 3)):
            with self.assertRaises(TypeError):
                Prices(*arguments)

    def test_wrong_arguments(self):
        for name in NAMES:
            for thing in WRONG:
                for others in ({}, {other: 5 for other in NAMES}, {other: 0 for other in NAMES}):
                    arguments = {**others, name: thing}
                    with self.subTest(name=name, thing=repr(thing)[:60]):
                        kept_as_it_was(self, thing, lambda: raises(self, InvalidPrices, lambda: Prices(**arguments)))


class SingleTest(unittest.TestCase):
    def setUp(self):
        self.prices = Prices(adding=2, changing=3, removing=4).with_row('1', 5).with_row('', None)

    def tearDown(self):
        self.assertEqual(shown(self.prices), [2, 3, 4, {'': None, '1': 5}])

    def test_one_after_the_other(self):
        rows = {'1': 5, '': None, '01': 999, '0': 1, '1' * 32: None, '0' * 32: 7}
        for order in itertools.permutations(rows, 4):
            prices = Prices(adding=9)
            for many, prefix in enumerate(order):
                before = prices
                prices = prices.with_row(prefix, rows[prefix])
                self.assertEqual(shown(before), [9, 1, 1, {some: rows[some] for some in order[:many]}])
            self.assertEqual(list(prices.single.items()), sorted((prefix, rows[prefix]) for prefix in order))
            self.assertEqual([prices.adding, prices.changing, prices.removing], [9, 1, 1])

    def test_the_same_prefix_twice(self):
        for first, second in itertools.product((None, 1, 7, 999), repeat=2):
            self.assertEqual(Prices().with_row('01', first).with_row('01', second).single, {'01': second})
            mixed = Prices().with_row('01', first).with_row('', 3).with_row('01', second)
            self.assertEqual(list(mixed.single.items()), [('', 3), ('01', second)])

    def test_two_rows_from_the_same_prices(self):
        one, two = self.prices.with_row('0', 1), self.prices.with_row('0', 2)
        self.assertEqual([one.single['0'], two.single['0']], [1, 2])
        self.assertIs(type(one), Prices)

    def test_the_dict_is_new(self):
        single = self.prices.single
        single['0'] = 1
        single.clear()
        self.assertIsNot(self.prices.single, self.prices.single)
        self.assertIs(type(self.prices.single), dict)
        self.assertEqual(list(self.prices.single), ['', '1'])

    def test_prefixes_of_all_lengths(self):
        for length in range(33):
            for bit in '01':
                self.assertEqual(Prices().with_row(bit * length, 6).single, {bit * length: 6})

    def test_wrong_prefixes(self):
        for prefix in NO_STRINGS + NO_BITS + ('0' * 33, '1' * 33, '0' * 5000, '0' * 31 + '2', '0' * 32 + '\n'):
            for price in (1, None, 0, 'a'):
                with self.subTest(prefix=repr(prefix)[:60], price=price):
                    kept_as_it_was(self, prefix, lambda: raises(
                        self, InvalidPrices, lambda: self.prices.with_row(prefix, price)))

    def test_wrong_prices(self):
        for price in WRONG:
            if price is not None:
                for prefix in ('', '0', '1', '0' * 32):
                    with self.subTest(price=repr(price)[:60]):
                        kept_as_it_was(self, price, lambda: raises(
                            self, InvalidPrices, lambda: self.prices.with_row(prefix, price)))

    def test_arguments_by_name(self):
        self.assertEqual(Prices().with_row(price=4, prefix='10').single, {'10': 4})
        self.assertEqual(Prices().with_row('10', price=None).single, {'10': None})
        raises(self, InvalidPrices, lambda: Prices().with_row(price=0, prefix='10'))
