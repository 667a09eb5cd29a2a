"""The runs of addresses that a table leads to the same, and where two tables differ."""

from keptroutes.prefixes import address_before, check_pair, run_starts


def stretches(table):
    """Return the longest runs with the same target as tuples (first address, last address, target)."""
    found = []
    for start in run_starts(table.width, table.rows):
        target = table.lookup(start)
        if len(found) == 0 or found[-1][1] != target:
            found.append((start, target))
    lasts = [address_before(start) for start, _ in found[1:]] + ["1" * table.width]
    return [(start, last, target) for (start, target), last in zip(found, lasts)]


def first_difference(one, two):
    """Return the first address that leads to different targets in two tables, or None."""
    check_pair(one, two)
    # Within a run all addresses lead to the same in both tables.
    for start in run_starts(one.width, list(one.rows) + list(two.rows)):
        if one.lookup(start) != two.lookup(start):
            return start
    return None


def same_meaning(one, two):
    """Return True if every address leads to the same in both tables."""
    return first_difference(one, two) is None
