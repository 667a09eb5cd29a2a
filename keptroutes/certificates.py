"""Certificates, which show that no solution costs less than a bar."""

from keptroutes.cheapest import Reckoning
from keptroutes.maps import is_whole
from keptroutes.tasks import HIGHEST_PRICE


def certificate(task):
    """Return a certificate that supports the least cost, or the bar None if there is no solution."""
    reckoning = Reckoning(task)
    return {node: reckoning.entries(node) for node in task.nodes}


def check_certificate(task, thing, bar):
    """Return True if the object is a certificate of the task that supports the bar."""
    return has_form(task, thing) and follows_rules(task, thing) and supports(thing, bar)


def has_form(task, thing):
    """Return True if the object is a dict from exactly the nodes to lists of entries, one for each choice."""
    nodes = task.nodes
    if not isinstance(thing, dict) or len(thing) != len(nodes):
        return False
    many = len(task.choices)
    for node in nodes:
        if node not in thing or not is_list_of_entries(thing[node], many):
            return False
    return True


def is_list_of_entries(thing, many):
    """Return True if the object is a list of so many entries."""
    if not isinstance(thing, list) or len(thing) != many:
        return False
    return all([entry is None or is_whole(entry) and entry >= 0 for entry in thing])


def supports(thing, bar):
    """Return True if the certificate supports the bar."""
    first = thing[""][0]
    return first is None or bar is not None and first >= bar


def follows_rules(task, thing):
    """Return True if each entry is at most the number of every option of its node."""
    greatest = max([max([entry or 0 for entry in entries]) for entries in thing.values()])
    # None counts as greater than every integer; the numbers of all possible options are less than this one.
    impossible = 2 * greatest + HIGHEST_PRICE + 1
    rules = Rules(task, impossible)
    numbers = {}
    for node, entries in thing.items():
        numbers[node] = [impossible if entry is None else entry for entry in entries]
    return all([rules.are_kept(node, numbers) for node in task.nodes])


class Rules:
    """What the entries of the nodes of a task must keep to, where an integer stands for None."""

    def __init__(self, task, impossible):
        self._task = task
        self._rows = task.table.rows
        self._choices = task.choices
        self._impossible = impossible

    def _below(self, node, numbers):
        """Return the list of what the options of a node have besides their prices, for all choices."""
        if not self._task.is_leaf(node):
            return [one + two for one, two in zip(numbers[node + "0"], numbers[node + "1"])]
        allowed = self._task.allowed_at(node)
        if allowed == "any":
            return [0] * len(self._choices)
        free = {choice: True for choice in allowed}
        return [0 if choice in free else self._impossible for choice in self._choices]

    def are_kept(self, node, numbers):
        """Return True if each entry of the node is at most the number of every option."""
        below = self._below(node, numbers)
        prices = self._task.prices
        price = 0
        if node not in self._rows:
            own = [number + prices.adding for number in below[1:]]
        else:
            own = [below[self._choices.index(self._rows[node])]]
            price = prices.to_remove(node)
            if price is not None:
                # That the row gets the target that it has costs more than that it stays.
                own += [number + prices.to_change(node) for number in below[1:]]
        # The options in which the node has a row are the same for each choice that it inherits.
        if max(numbers[node]) > min(own, default=self._impossible):
            return False
        return price is None or all([entry <= number + price for entry, number in zip(numbers[node], below)])
