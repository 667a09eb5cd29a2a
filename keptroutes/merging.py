"""Merges of tables that were changed on two sides."""

from keptroutes.prefixes import check_pair, closure
from keptroutes.tasks import Task
from keptroutes.wishes import Wish


def merge_wish(base, one, two):
    """Return the wish whose rows are the leaves of the three tables with their merged targets."""
    return Wish(base.width, merged_leaves(base, one, two))


def conflicts(base, one, two):
    """Return the ascending list of the leaves whose addresses have a conflict."""
    merged = merged_leaves(base, one, two)
    return [leaf for leaf, targets in merged.items() if len(targets) == 2]


def merge_task(base, one, two, prices):
    """Return the task with the table one, the merged wish and these prices."""
    return Task(one, merge_wish(base, one, two), prices)


def merged_leaves(base, one, two):
    """Return the leaves of the three tables in ascending order, each with the merged targets of its addresses."""
    check_pair(base, one)
    check_pair(base, two)
    found = {}
    for leaf in common_leaves(base, one, two):
        # All addresses of a leaf lead to the same in each of the tables.
        address = leaf.ljust(base.width, "0")
        found[leaf] = merged_targets(base.lookup(address), one.lookup(address), two.lookup(address))
    return found


def common_leaves(base, one, two):
    """Return the ascending list of the leaves of the three tables."""
    nodes = closure(list(base.rows) + list(one.rows) + list(two.rows))
    tree = set(nodes)
    # A node has both children or none.
    return [node for node in nodes if node + "0" not in tree]


def merged_targets(base, one, two):
    """Return the list of the merged targets of an address that the tables lead to these; two are a conflict."""
    if one == two or two == base:
        return [one]
    if one == base:
        return [two]
    return [one, two]
