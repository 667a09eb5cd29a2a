"""Least costs and cheapest solutions."""

from keptroutes.errors import NoSolution
from keptroutes.obstacles import first_obstacle
from keptroutes.tables import Table
from keptroutes.tasks import HIGHEST_PRICE


class Numbers:
    """A number for each choice: `known` has those of some choices, `rest` is that of all others.

    No number in `known` is greater than `rest`. So it stays small, however many choices there are.
    """

    def __init__(self, known, rest):
        self.known = known
        self.rest = rest

    def at(self, choice):
        """Return the number for this choice."""
        return self.known.get(choice, self.rest)


class Reckoning:
    """The least costs of each node of a task for each choice that it inherits, from the leaves up."""

    def __init__(self, task):
        self._task = task
        self._rows = task.table.rows
        self._choices = task.choices
        self._places = {choice: place for place, choice in enumerate(self._choices)}
        nodes = task.nodes
        # Each node costs one price at most, so that no table with rows for nodes alone costs as much as this.
        self._impossible = (HIGHEST_PRICE + 1) * len(nodes)
        self._own = {}
        self._numbers = {}
        for node in reversed(nodes):
            below = self._below(node)
            self._own[node] = self._best_row(node, below)
            self._numbers[node] = self._best_of_all(node, below)

    def _below(self, node):
        """Return what everything below the row of the node costs, for each choice that the node passes on."""
        if self._task.is_leaf(node):
            allowed = self._task.allowed_at(node)
            if allowed == "any":
                return Numbers({}, 0)
            return Numbers({choice: 0 for choice in allowed}, self._impossible)
        one = self._numbers[node + "0"]
        two = self._numbers[node + "1"]
        known = {choice: number + two.at(choice) for choice, number in one.known.items()}
        for choice, number in two.known.items():
            known[choice] = one.at(choice) + number
        return Numbers(known, one.rest + two.rest)

    def _best_target(self, below):
        """Return the least number that a target as the choice has of its own, and this target."""
        named = [(number, choice) for choice, number in below.known.items() if choice is not None]
        # A new row for any other target is never better than that the node has no new row.
        return min(named, default=(self._impossible, None))

    def _best_row(self, node, below):
        """Return the least number of the options in which the node has a row, and the target of this row."""
        number, target = self._best_target(below)
        prices = self._task.prices
        if node not in self._rows:
            return min(number + prices.adding, self._impossible), target
        old = self._rows[node]
        stay = min(below.at(old), self._impossible)
        if prices.to_change(node) is None or stay <= number + prices.to_change(node):
            return stay, old
        return number + prices.to_change(node), target

    def _best_of_all(self, node, below):
        """Return the least number of all options, for each choice that the node inherits."""
        own, _ = self._own[node]
        price = 0
        if node in self._rows:
            price = self._task.prices.to_remove(node)
        if price is None:
            return Numbers({}, own)
        known = {choice: number + price for choice, number in below.known.items() if number + price < own}
        return Numbers(known, min(below.rest + price, own))

    def least(self):
        """Return the least cost, or None if there is no solution."""
        return self._shown(self._numbers[""].at(None))

    def _shown(self, number):
        return None if number >= self._impossible else number

    def entries(self, node):
        """Return the list of the numbers of a node for all choices, None where there is no solution."""
        numbers = self._numbers[node]
        found = [self._shown(numbers.rest)] * len(self._choices)
        for choice, number in numbers.known.items():
            found[self._places[choice]] = self._shown(number)
        return found

    def solution(self):
        """Return a cheapest solution, where there is one."""
        rows = {}
        inherited = {"": None}
        for node in self._task.nodes:
            choice = inherited[node]
            number, target = self._own[node]
            if self._numbers[node].at(choice) == number:
                rows[node] = target
                choice = target
            if not self._task.is_leaf(node):
                inherited[node + "0"] = choice
                inherited[node + "1"] = choice
        return Table(self._task.table.width, rows)


def least_cost(task):
    """Return the least cost, or None if there is no solution."""
    return Reckoning(task).least()


def cheapest(task):
    """Return a tuple of the least cost and a cheapest solution."""
    reckoning = Reckoning(task)
    price = reckoning.least()
    if price is None:
        raise NoSolution(first_obstacle(task))
    return price, reckoning.solution()
