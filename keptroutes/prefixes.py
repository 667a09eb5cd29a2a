"""What several maps share: their width, the runs that their prefixes cut, and the tree that these span."""

from keptroutes.errors import InvalidPair


def check_pair(one, two):
    """Raise InvalidPair if two maps have different widths."""
    if one.width != two.width:
        raise InvalidPair("the widths differ")


def run_starts(width, prefixes):
    """Return the first addresses, in ascending order, of the runs that no prefix cuts into two."""
    found = {"0" * width: True}
    for prefix in prefixes:
        found[prefix.ljust(width, "0")] = True
        # The next run begins behind the last address of the prefix, unless this one is the last of all.
        stem = prefix.rstrip("1")
        if stem != "":
            found[(stem[:-1] + "1").ljust(width, "0")] = True
    return sorted(found)


def address_before(address):
    """Return the address before this one, which is not the first of all."""
    stem = address.rstrip("0")
    return (stem[:-1] + "0").ljust(len(address), "1")


def sibling(prefix):
    """Return the prefix with the other last bit."""
    return prefix[:-1] + ("1" if prefix[-1] == "0" else "0")


def closure(prefixes):
    """Return the smallest tree that holds the empty prefix and these ones, as an ascending list.

    With each prefix that is not empty, also the one without its last bit and the one with the other last bit
    stand in it.
    """
    found = {"": True}
    for prefix in prefixes:
        node = prefix
        # Of a prefix that is in the tree, all that it asks for is in the tree, too.
        while node not in found:
            found[node] = True
            found[sibling(node)] = True
            node = node[:-1]
    return sorted(found)
