"""Prefixes, addresses, and maps from prefixes to values."""

from keptroutes.errors import InvalidMap, InvalidPrefix, UnknownRow

WIDEST = 32


def is_whole(thing):
    """Return True if the object is an integer; True and False are none."""
    return isinstance(thing, int) and not isinstance(thing, bool)


def is_width(thing):
    """Return True if the object is a width."""
    return is_whole(thing) and 1 <= thing <= WIDEST


def has_only(text, signs):
    """Return True if each character of the text is one of the signs."""
    # lstrip stops at the first other character, so that nothing is left only if there is none.
    return text.lstrip(signs) == ""


def is_prefix(thing, width):
    """Return True if the object is a prefix of this width."""
    return isinstance(thing, str) and len(thing) <= width and has_only(thing, "01")


def is_address(thing, width):
    """Return True if the object is an address of this width."""
    return is_prefix(thing, width) and len(thing) == width


class PrefixMap:
    """A map from prefixes to values, which does not change; here every integer is a value."""

    def __init__(self, width, rows):
        if not is_width(width):
            raise InvalidMap("the width is no integer from 1 to 32")
        if not isinstance(rows, dict):
            raise InvalidMap("the rows are no dict")
        for prefix in rows:
            # All keys are looked at before they are sorted: integers and strings have no common order.
            if not is_prefix(prefix, width):
                raise InvalidMap("the prefix of a row is no prefix of this width")
        self._width = width
        self._rows = {prefix: self._checked(rows[prefix]) for prefix in sorted(rows)}

    @classmethod
    def _made(cls, width, rows):
        # Only a class method knows the class of the map, which a changed map must have too.
        return cls(width, rows)

    def _checked(self, value):
        """Return the value in the form in which this class keeps it, or raise InvalidMap."""
        if not is_whole(value):
            raise InvalidMap("the value of a row is no integer")
        return value

    @property
    def width(self):
        """The width of the prefixes."""
        return self._width

    @property
    def rows(self):
        """The rows, as a new dict in ascending order of the prefixes."""
        return dict(self._rows)

    def __len__(self):
        return len(self._rows)

    def __eq__(self, other):
        if not isinstance(other, PrefixMap):
            return False
        return type(self) is type(other) and self._width == other._width and self._rows == other._rows

    def walk(self):
        """Yield the pairs (prefix, value) in ascending order."""
        for prefix, value in self._rows.items():
            yield prefix, value

    def longest(self, prefix):
        """Return the longest prefix of a row with which the argument begins, or None."""
        if not is_prefix(prefix, self._width):
            raise InvalidPrefix("the argument is no prefix of this width")
        for length in range(len(prefix), -1, -1):
            if prefix[:length] in self._rows:
                return prefix[:length]
        return None

    def with_row(self, prefix, value):
        """Return a map of the same class in which this row is added or replaced."""
        if not is_prefix(prefix, self._width):
            raise InvalidPrefix("the argument is no prefix of this width")
        return self._made(self._width, {**self._rows, prefix: value})

    def without(self, prefix):
        """Return a map of the same class without the row of this prefix."""
        # Objects that are no strings are refused first: a dict cannot be asked for all of them.
        if not isinstance(prefix, str) or prefix not in self._rows:
            raise UnknownRow("the map has no row with this prefix")
        return self._made(self._width, {kept: self._rows[kept] for kept in self._rows if kept != prefix})
