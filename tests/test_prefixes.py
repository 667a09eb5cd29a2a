"""Points 3 and 8: widths and prefixes."""

import unittest

from keptroutes.maps import is_prefix
from tests.samples import NO_BITS, NO_STRINGS, WIDTHS, kept_as_it_was, prefixes


class IsPrefixTest(unittest.TestCase):
    def check(self, thing, width, expected):
        with self.subTest(width=width, thing=repr(thing)[:60]):
            self.assertIs(kept_as_it_was(self, thing, lambda: is_prefix(thing, width)), expected)

    def test_lengths(self):
        for width in WIDTHS:
            for bit in '01':
                for length in (0, 1, width - 1, width):
                    self.check(bit * length, width, True)
                for length in (width + 1, width + 2, 64, 5000):
                    self.check(bit * length, width, False)

    def test_all_of_a_small_width(self):
        for prefix in prefixes(5):
            for width in range(1, 7):
                self.check(prefix, width, len(prefix) <= width)

    def test_a_wrong_character_at_any_place(self):
        for width in WIDTHS:
            bits = ('01' * 16)[:width]
            for place in range(width):
                for sign in '2aO-* \t\n/:~':
                    self.check(bits[:place] + sign + bits[place + 1:], width, False)

    def test_strings_that_are_no_bits(self):
        for width in WIDTHS:
            for thing in NO_BITS:
                self.check(thing, width, False)

    def test_objects_of_all_kinds(self):
        for width in WIDTHS:
            for thing in NO_STRINGS:
                self.check(thing, width, False)

    def test_arguments_by_name(self):
        self.assertIs(is_prefix(thing='01', width=2), True)
        self.assertIs(is_prefix('011', width=2), False)
        self.assertIs(is_prefix(width=2, thing=None), False)
