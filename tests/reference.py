"""What the document says, reckoned anew from dicts of rows, slowly and word by word."""

import itertools

from tests.samples import longest_by_search, prefixes


def target_at(rows, address):
    """Return the target to which the rows of a table lead the address, or None."""
    prefix = longest_by_search(rows, address)
    return None if prefix is None else rows[prefix]


def allowed_at(rows, address):
    """Return what the rows of a wish allow the address: a list or tuple, or "any"."""
    prefix = longest_by_search(rows, address)
    return 'any' if prefix is None else rows[prefix]


def failures(wish, table, some):
    """Return those of the addresses that the rows of the table lead to what they are not allowed."""
    return [address for address in some
            if allowed_at(wish, address) != 'any' and target_at(table, address) not in allowed_at(wish, address)]


def ascending(targets):
    """Return the tuple of targets and None in ascending order."""
    return tuple(sorted(targets, key=lambda target: (target is not None, target or '')))


def nodes_of(width, table, wish):
    """Return the nodes of point 6 in ascending order."""
    found = {''} | set(table) | set(wish)
    found |= {prefix + bit for prefix in table if len(prefix) < width for bit in '01'}
    while True:
        long = [prefix for prefix in found if prefix != '']
        more = {prefix[:-1] for prefix in long} | {prefix[:-1] + '10'[int(prefix[-1])] for prefix in long}
        if more <= found:
            return sorted(found)
        found |= more


def leaves_of(nodes):
    """Return those of the nodes with which no longer one begins."""
    shorter = {node[:-1] for node in nodes if node != ''}
    return [node for node in nodes if node not in shorter]


def choices_of(table, wish):
    """Return the choices of point 14."""
    named = set(table.values()).union(*wish.values())
    return [None] + sorted(named - {None})


def cost_of(old, new, prices, single):
    """Return the cost of point 5; `prices` are those for adding, changing and removing."""
    adding, changing, removing = prices
    spent = 0
    for prefix in set(old) | set(new):
        if prefix not in old:
            spent += adding
        elif old[prefix] != new.get(prefix):
            price = single.get(prefix, changing if prefix in new else removing)
            if price is None:
                return None
            spent += price
    return spent


def all_tables(width, targets):
    """Return the rows of all tables of this width with these targets."""
    every = prefixes(width)
    found = []
    for chosen in itertools.product((None,) + tuple(targets), repeat=len(every)):
        found.append({prefix: target for prefix, target in zip(every, chosen) if target is not None})
    return found


def is_obstacle_of(leaf, width, table, wish, single):
    """Return True if the leaf is an obstacle by the three kinds of point 7."""
    allowed = allowed_at(wish, leaf.ljust(width, '0'))
    if allowed == 'any':
        return False
    locked = [prefix for prefix in table if prefix in single and single[prefix] is None]
    if leaf in locked and table[leaf] not in allowed:
        return True
    if list(allowed) == []:
        return True
    return list(allowed) == [None] and any(leaf.startswith(prefix) for prefix in locked)


def option_numbers(task, thing, node, choice):
    """Return the numbers of the options of point 17 of a node for the choice that it inherits."""
    rows, prices, choices = task.table.rows, task.prices, task.choices
    targets = choices[1:]
    if node not in rows:
        options = [(0, choice)] + [(prices.adding, target) for target in targets]
    else:
        options = [(0, rows[node])]
        own = prices.single.get(node, 0)
        if own is not None:
            options += [(own or prices.changing, target) for target in targets if target != rows[node]]
            options.append((own or prices.removing, choice))
    numbers = []
    for price, passed in options:
        if node in task.leaves:
            allowed = allowed_at(task.wish.rows, node.ljust(task.table.width, '0'))
            below = [0 if allowed == 'any' or passed in allowed else None]
        else:
            below = [thing[node + bit][choices.index(passed)] for bit in '01']
        numbers.append(None if None in below else price + sum(below))
    return numbers


def keeps_the_rules(task, thing):
    """Return True if the entries of a thing of the right form are at most the numbers of all options."""
    for node in thing:
        for choice, entry in zip(task.choices, thing[node]):
            for number in option_numbers(task, thing, node, choice):
                if number is not None and (entry is None or entry > number):
                    return False
    return True


def changes_of(old, new):
    """Return the sequence of point 7 as a list."""
    differing = [prefix for prefix in set(old) | set(new) if old.get(prefix) != new.get(prefix)]
    kept = sorted((prefix for prefix in differing if prefix in new), key=lambda prefix: (-len(prefix), prefix))
    gone = sorted((prefix for prefix in differing if prefix not in new), key=lambda prefix: (len(prefix), prefix))
    return [(prefix, new.get(prefix)) for prefix in kept + gone]


def walked(old, sequence):
    """Return the rows after each change of a sequence."""
    found = []
    rows = dict(old)
    for prefix, target in sequence:
        if target is None:
            del rows[prefix]
        else:
            rows[prefix] = target
        found.append(dict(rows))
    return found


def is_safe_by_search(old, new, sequence, some):
    """Return True if each of the addresses leads to its old or new target after each change of a sequence."""
    free = {address: (target_at(old, address), target_at(new, address)) for address in some}
    return all(target_at(rows, address) in free[address] for rows in walked(old, sequence) for address in some)


def merged_of(base, one, two):
    """Return the set of the merged targets of point 22 from the targets of an address."""
    if one == two or two == base:
        return {one}
    return {two} if one == base else {one, two}


def merged_at(base, one, two, address):
    """Return the ascending tuple of the merged targets of an address from the rows of three tables."""
    return ascending(merged_of(*(target_at(rows, address) for rows in (base, one, two))))


def common_leaves_of(*tables):
    """Return the leaves of tables of point 22 in ascending order."""
    # As rows of a wish, prefixes span just the tree that is meant.
    return leaves_of(nodes_of(0, {}, [prefix for rows in tables for prefix in rows]))
