"""Sequences of single changes that lead from an old table to a new one."""

from keptroutes.prefixes import check_pair, run_starts


def changes(old, new):
    """Return the safe sequence from the old to the new table as a list of tuples (prefix, target or None)."""
    check_pair(old, new)
    wanted = wanted_targets(old, new)
    # Additions and changes of targets stand from the longest to the shortest prefix, removals the other way round.
    given = sorted([(-len(prefix), prefix) for prefix in wanted if wanted[prefix] is not None])
    removed = sorted([(len(prefix), prefix) for prefix in wanted if wanted[prefix] is None])
    return [(prefix, wanted[prefix]) for _, prefix in given + removed]


def wanted_targets(old, new):
    """Return the prefixes whose rows differ, each with its target in the new table, or None."""
    was = old.rows
    now = new.rows
    return {prefix: now.get(prefix) for prefix in {**was, **now} if was.get(prefix) != now.get(prefix)}


def after_change(table, prefix, target):
    """Return the table after this change."""
    if target is None:
        return table.without(prefix)
    return table.with_row(prefix, target)


def moments(old, new):
    """Yield the tables after each of the changes from the old to the new table."""
    table = old
    for prefix, target in changes(old, new):
        table = after_change(table, prefix, target)
        yield table


def is_safe(old, new, thing):
    """Return True if the object is a list that is a safe sequence of tuples from the old to the new table."""
    check_pair(old, new)
    return is_sequence(old, new, thing) and stays_safe(old, new, thing)


def is_sequence(old, new, thing):
    """Return True if the object is a list with exactly one change for each prefix whose row differs."""
    wanted = wanted_targets(old, new)
    if not isinstance(thing, list) or len(thing) != len(wanted):
        return False
    met = set()
    for change in thing:
        if not isinstance(change, tuple) or len(change) != 2:
            return False
        prefix, target = change
        # Objects that are no strings are refused first: a dict cannot be asked for all of them.
        if not isinstance(prefix, str) or prefix not in wanted or target != wanted[prefix]:
            return False
        met.add(prefix)
    return len(met) == len(wanted)


def stays_safe(old, new, sequence):
    """Return True if after each change of the sequence every address leads to its old or its new target."""
    # Within a run all addresses lead to the same in the old, the new, and every table between them.
    starts = run_starts(old.width, list(old.rows) + list(new.rows))
    free = {start: (old.lookup(start), new.lookup(start)) for start in starts}
    table = old
    for prefix, target in sequence:
        table = after_change(table, prefix, target)
        # A change moves only addresses that begin with its prefix.
        for start in starts:
            if start.startswith(prefix) and table.lookup(start) not in free[start]:
                return False
    return True
