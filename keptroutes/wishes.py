"""Wishes, which say to which targets addresses may lead."""

from keptroutes.errors import InvalidAddress, InvalidMap
from keptroutes.maps import PrefixMap, is_address
from keptroutes.prefixes import check_pair, run_starts
from keptroutes.tables import Table


class Wish(PrefixMap):
    """A map whose values are sets of targets and None, kept as ascending tuples."""

    # The interface lists the constructor for this class too, so that it may not only be inherited.
    def __init__(self, width, rows):
        super().__init__(width, rows)

    @classmethod
    def exact(cls, table):
        """Return the wish that only the tables with the same meaning fulfil."""
        rows = {prefix: (target,) for prefix, target in table.rows.items()}
        if "" not in rows:
            rows[""] = (None,)
        return cls(table.width, rows)

    def _checked(self, value):
        if not isinstance(value, (list, tuple)):
            raise InvalidMap("the value of a row is no list or tuple")
        for target in value:
            # All are looked at before they are compared: other objects may have no place in a set.
            if target is not None and not Table.is_target(target):
                raise InvalidMap("what a row allows is neither a target nor None")
        if len(set(value)) != len(value):
            raise InvalidMap("a row allows the same twice")
        named = sorted([target for target in value if target is not None])
        if None in value:
            return (None, *named)
        return tuple(named)

    def allowed(self, address):
        """Return the tuple of what the address is allowed, or "any" if no row counts for it."""
        if not is_address(address, self._width):
            raise InvalidAddress("the argument is no address of this width")
        prefix = self.longest(address)
        if prefix is None:
            return "any"
        return self._rows[prefix]

    def first_failure(self, table):
        """Return the first address that the table leads to something that it is not allowed, or None."""
        check_pair(self, table)
        # Within a run all addresses lead to the same and are allowed the same.
        for start in run_starts(self._width, list(self._rows) + list(table.rows)):
            allowed = self.allowed(start)
            if allowed != "any" and table.lookup(start) not in allowed:
                return start
        return None

    def is_fulfilled(self, table):
        """Return True if the table leads every address to what it is allowed."""
        return self.first_failure(table) is None
