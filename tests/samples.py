"""Objects and helpers that several tests use."""

import copy
import random
import unittest


def nested(depth):
    """Return an object of every kind of container, nested to this depth."""
    thing = ('0', [1, None])
    for level in range(depth):
        thing = ([thing], (thing,), {'0': thing, 1: level})[level % 3]
    return thing


# Objects that are neither integers nor strings, of all the kinds that the document calls "any object".
NO_TEXTS = (
    True, False, None, (), [], {}, ('0',), ['0'], ['0', '1'], ('0', '1'), (1, 2), [1, 2], [[]], ([],), {'0': 'a'},
    {1: 'a'}, {'0': []}, {'': {}}, ((), ((),)), [None, True], ('a', ['b', {'c': None}]), nested(19), ['0'] * 4999,
)
INTEGERS = (0, 1, -1, 2, 7, 32, 33, 10 ** 39, -10 ** 39)
NO_STRINGS = NO_TEXTS + INTEGERS
# Strings that hold something besides bits, at each place.
NO_BITS = (
    ' ', '0 ', ' 0', '2', '02', '20', '0 1', '021', 'a', 'O', 'l', '-', '*', '+1', '-1', '\t', '\n', '0\n', '\n0',
    '0\t', '\t0', '0\n1', '0.', '0_1', "'0'", '~', '0~1', ',', 'None',
)


def wrong_prefixes(width):
    """Return objects of all kinds that are no prefixes of this width."""
    return NO_STRINGS + NO_BITS + ('0' * (width + 1), '1' * (width + 1), '01' * 2500)


def wrong_addresses(width):
    """Return objects of all kinds that are no addresses of this width."""
    return wrong_prefixes(width) + tuple(('10' * 16)[:length] for length in range(width))


NO_WIDTHS = NO_TEXTS + (0, 33, -1, -32, 64, 10 ** 39, -10 ** 39, '', '2', '02', 'two', ' ', '\n')
NO_TARGETS = NO_STRINGS + (
    '', 'a' * 9, 'abcdefghi', 'a' * 5000, 'A', 'aB', 'Ba', 'bAb', 'a1', '1a', '1', '0', 'a b', ' a', 'a ', ' ', '\n',
    'a\n', '\na', 'a\nb', 'a\t', '\t', '-', 'a-b', '*', '`', '{', 'a{', '`a', '@', '[', 'None', 'a_b', '_',
)
# Objects that a wish does not take as the value of a row.
NO_ALLOWED = tuple(thing for thing in NO_STRINGS if repr(thing) not in ('()', '[]')) + (
    '', 'a', 'ab', '-', 'any', 'None', 'a b', {'a': 'b'}, {'a': None}, {}, ['a', 'a'], ('a', 'a'), [None, None],
    (None, None), ['a', 'b', 'a'], ['a', 'b', 'b'], (None, 'a', None), ['a', None, 'b', None], ['a'] * 4999,
    [['a']], [('a',)], (['a'],), (('a', 'b'),), [['a'], ['a']], [{'a': 'b'}], [[]], ((),), [{}],
)
TARGETS = ('a', 'z', 'm', 'none', 'abcdefgh', 'zzzzzzzz', 'any', 'ijklmnop', 'qrstuvwx', 'yz')
WIDTHS = (1, 2, 5, 31, 32)


def same(one, two):
    """Return True if two objects are equal in value and kind, so that True is not 1."""
    return repr(one) == repr(two)


def kept_as_it_was(test, thing, action):
    """Run the action and check that it leaves the object as it was."""
    before = copy.deepcopy(thing)
    result = action()
    test.assertTrue(same(thing, before))
    return result


def raises(test, error, action):
    """Check that the action raises exactly this error class, whatever its message."""
    with test.assertRaises(error) as caught:
        action()
    test.assertIs(caught.exception.__class__, error)


class RefusingTest(unittest.TestCase):
    """The base of tests in which wrong objects are refused and stay as they are."""

    def refused(self, error, action, thing):
        with self.subTest(thing=repr(thing)[:60]):
            kept_as_it_was(self, thing, lambda: raises(self, error, lambda: action(thing)))


def addresses(width):
    """Return all addresses of this width."""
    return [format(number, 'b').zfill(width) for number in range(2 ** width)]


def prefixes(width):
    """Return all prefixes of this width."""
    return [''] + [prefix for length in range(1, width + 1) for prefix in addresses(length)]


def longest_by_search(rows, start):
    """Return what `longest` must return, found among all the rows."""
    found = [prefix for prefix in rows if start.startswith(prefix)]
    return max(found, key=len) if found else None


def beside(width, some):
    """Return the first and the last address of each of these prefixes and those next to them, in ascending order."""
    found = {0, 2 ** width - 1}
    for prefix in some:
        first = int(prefix.ljust(width, '0'), 2)
        last = int(prefix.ljust(width, '1'), 2)
        found |= {first - 1, first, first + 1, last - 1, last, last + 1}
    return [format(number, 'b').zfill(width) for number in sorted(found) if 0 <= number < 2 ** width]


def some_prefixes(chance, width, many):
    """Return up to this many different prefixes, of which some begin with others."""
    found = {}
    for _ in range(many):
        start = chance.choice(list(found) + [''])
        found[(start + format(chance.getrandbits(32), 'b').zfill(32))[:chance.randint(0, width)]] = True
    return list(found)


def some_table_rows(chance, width, many, targets):
    """Return rows of a table, not in ascending order."""
    return {prefix: chance.choice(targets) for prefix in some_prefixes(chance, width, many)}


def some_wish_rows(chance, width, many, targets):
    """Return rows of a wish, not in ascending order; some of them allow nothing or only None."""
    choices = [None] + list(targets)
    return {prefix: chance.sample(choices, min(chance.choice((0, 1, 1, 2, 2, 3)), len(choices)))
            for prefix in some_prefixes(chance, width, many)}


def just_prefixes(chance, width, many):
    """Return exactly so many different prefixes, of which some begin with others."""
    found = {}
    while len(found) < many:
        found.update(dict.fromkeys(some_prefixes(chance, width, many)))
    return chance.sample(list(found), many)


def near_rows(chance, width, rows, targets, many=3):
    """Return rows of which up to so many are left out, and up to so many are added or have other targets."""
    left = chance.sample(list(rows), min(len(rows), chance.randint(0, many)))
    near = {prefix: target for prefix, target in rows.items() if prefix not in left}
    for prefix in chance.sample(list(near), min(len(near), chance.randint(0, many))):
        near[prefix] = chance.choice(targets)
    near.update(some_table_rows(chance, width, chance.randint(0, many), targets))
    return near


def some_pairs(chance, width, many, targets):
    """Return pairs of rows of tables: nearly the same and quite other ones, without rows, and the same ones."""
    one = some_table_rows(chance, width, many, targets)
    two = some_table_rows(chance, width, many, targets)
    near = near_rows(chance, width, one, targets)
    return [(one, near), (near, one), (one, two), (one, {}), ({}, one), (one, dict(one)), ({}, {})]


def chances(many):
    """Return sources of numbers that look random and are the same in each run."""
    return [random.Random(seed) for seed in range(many)]
