"""Tables, which lead addresses to targets."""

from keptroutes.errors import InvalidAddress, InvalidMap
from keptroutes.maps import PrefixMap, has_only, is_address

LETTERS = "abcdefghijklmnopqrstuvwxyz"
LONGEST_TARGET = 8


class Table(PrefixMap):
    """A map whose values are targets."""

    # The interface lists the constructor for this class too, so that it may not only be inherited.
    def __init__(self, width, rows):
        super().__init__(width, rows)

    @classmethod
    def of(cls, width, *pairs):
        """Return the table with these pairs (prefix, target) as rows."""
        rows = {}
        for pair in pairs:
            if not isinstance(pair, tuple) or len(pair) != 2:
                raise InvalidMap("a row is no tuple of two")
            prefix, target = pair
            # The table itself judges strings; others are refused here, as some cannot be keys.
            if not isinstance(prefix, str) or prefix in rows:
                raise InvalidMap("the prefix of a row is no string, or it occurs twice")
            rows[prefix] = target
        return cls(width, rows)

    @staticmethod
    def is_target(thing):
        """Return True if the object is a target."""
        return isinstance(thing, str) and 1 <= len(thing) <= LONGEST_TARGET and has_only(thing, LETTERS)

    def _checked(self, value):
        if not self.is_target(value):
            raise InvalidMap("the value of a row is no target")
        return value

    @property
    def targets(self):
        """The different targets of the rows, as a new list in ascending order."""
        return sorted(set(list(self._rows.values())))

    def lookup(self, address):
        """Return the target to which the address leads, or None."""
        if not is_address(address, self._width):
            raise InvalidAddress("the argument is no address of this width")
        prefix = self.longest(address)
        if prefix is None:
            return None
        return self._rows[prefix]
