"""The texts of tables and wishes."""

from keptroutes.errors import ParseError
from keptroutes.maps import WIDEST, is_prefix
from keptroutes.tables import Table
from keptroutes.wishes import Wish

EMPTY_PREFIX = "*"
NO_TARGET = "-"


def format_map(some):
    """Return the text of a table or a wish."""
    if isinstance(some, Table):
        lines = [f"table {some.width}"]
        allowed = {prefix: (target,) for prefix, target in some.rows.items()}
    else:
        lines = [f"wish {some.width}"]
        allowed = some.rows
    for prefix, targets in allowed.items():
        lines.append(format_row(prefix, targets))
    return "\n".join(lines)


def format_row(prefix, targets):
    """Return the line of a row."""
    words = [EMPTY_PREFIX if prefix == "" else prefix]
    for target in targets:
        words.append(NO_TARGET if target is None else target)
    return " ".join(words)


def parse_map(text):
    """Return the table or the wish with this text."""
    if not isinstance(text, str):
        raise ParseError(0)
    lines = text.split("\n")
    word, width = parse_head(lines[0])
    rows = {}
    last = None
    for index, line in enumerate(lines[1:], start=1):
        prefix, targets = parse_row(line, width, index)
        if last is not None and prefix <= last:
            raise ParseError(index)
        if word == "table" and (len(targets) != 1 or None in targets):
            raise ParseError(index)
        rows[prefix] = targets
        last = prefix
    if word == "table":
        return Table(width, {prefix: targets[0] for prefix, targets in rows.items()})
    return Wish(width, rows)


def parse_head(line):
    """Return the word and the width of a first line."""
    word, _, digits = line.partition(" ")
    # The digits are compared with those of all widths, as a word may be too long to be read as a number.
    widths = {f"{width}": width for width in range(1, WIDEST + 1)}
    if word not in ("table", "wish") or digits not in widths:
        raise ParseError(0)
    return word, widths[digits]


def parse_row(line, width, index):
    """Return the prefix and the list of targets of the line with this index."""
    words = line.split(" ")
    names = words[1:]
    # As words, too, None comes before all targets.
    if not is_prefix_word(words[0], width) or names != sorted(set(names)):
        raise ParseError(index)
    for name in names:
        if name != NO_TARGET and not Table.is_target(name):
            raise ParseError(index)
    prefix = "" if words[0] == EMPTY_PREFIX else words[0]
    return prefix, [None if name == NO_TARGET else name for name in names]


def is_prefix_word(word, width):
    """Return True if a prefix is written so; the empty one has a sign of its own."""
    return word == EMPTY_PREFIX or word != "" and is_prefix(word, width)
