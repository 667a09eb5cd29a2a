"""Obstacles: the leaves for which a task has no solution."""

from keptroutes.errors import UnknownLeaf


def is_obstacle(task, leaf):
    """Return True if the leaf is an obstacle."""
    if not task.is_leaf(leaf):
        raise UnknownLeaf("the argument is no leaf of the task")
    return stands_in_the_way(task, leaf, task.locked_rows())


def stands_in_the_way(task, leaf, locked):
    """Return True if the leaf is an obstacle, where the locked rows of the task are these."""
    allowed = task.allowed_at(leaf)
    if allowed == "any":
        return False
    if allowed == (None,):
        # Below a locked row every address leads to some target.
        return any([leaf.startswith(prefix) for prefix in locked])
    return len(allowed) == 0 or leaf in locked and locked[leaf] not in allowed


def obstacles(task):
    """Yield the obstacles in ascending order."""
    locked = task.locked_rows()
    for leaf in task.leaves:
        if stands_in_the_way(task, leaf, locked):
            yield leaf


def first_obstacle(task):
    """Return the first obstacle, or None."""
    for leaf in obstacles(task):
        return leaf
    return None
