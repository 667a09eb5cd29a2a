"""A shell: lines of words that ask and change a board."""

from keptroutes.board import Board
from keptroutes.errors import InvalidLine
from keptroutes.maps import has_only
from keptroutes.texts import EMPTY_PREFIX, NO_TARGET, format_map

DONE = "ok"
MOST_DIGITS = 3
# How many words lines have; those that begin with "wish" have as many or more.
WORDS = {
    "create": 3, "put": 4, "take": 3, "price": 5, "lock": 3, "free": 3, "drop": 2, "mark": 2, "back": 2, "wish": 3,
    "show": 2, "find": 3, "spent": 2, "names": 1,
}


def words_of(line):
    """Return the words of a line, whose first word and number of words are right."""
    if not isinstance(line, str):
        raise InvalidLine("the line is no string")
    words = line.split(" ")
    if "" in words or words[0] not in WORDS:
        raise InvalidLine("a word is empty, or the first word is none of the shell")
    more = len(words) - WORDS[words[0]]
    if more < 0 or more > 0 and words[0] != "wish":
        raise InvalidLine("the line has too few or too many words")
    return words


def number_of(word):
    """Return the number from 0 to 999 that is written so."""
    if len(word) > MOST_DIGITS or not has_only(word, "0123456789"):
        raise InvalidLine("a word is no number from 0 to 999")
    if word.startswith("0") and word != "0":
        raise InvalidLine("a number has a zero ahead")
    return int(word)


def prefix_of(word):
    """Return the prefix that is written so; the board judges what is none."""
    return "" if word == EMPTY_PREFIX else word


def target_of(word):
    """Return the target that is written so, or None; the board judges what is none."""
    return None if word == NO_TARGET else word


class Shell:
    """A board that is asked and changed by lines."""

    def __init__(self):
        self._board = Board()

    def run(self, line):
        """Execute a line and return what it says."""
        word, *rest = words_of(line)
        actions = {
            "create": self._create, "put": self._put, "take": self._take, "price": self._price, "lock": self._lock,
            "free": self._free, "drop": self._drop, "mark": self._mark, "back": self._back, "wish": self._revise,
            "show": self._show, "find": self._find, "spent": self._spent, "names": self._names,
        }
        action = actions[word]
        return action(*rest)

    def _create(self, name, width):
        self._board.create(name, number_of(width))
        return DONE

    def _put(self, name, prefix, target):
        self._board.put(name, prefix_of(prefix), target_of(target))
        return DONE

    def _take(self, name, prefix):
        self._board.take(name, prefix_of(prefix))
        return DONE

    def _price(self, name, adding, changing, removing):
        self._board.price(
            name, adding=number_of(adding), changing=number_of(changing), removing=number_of(removing))
        return DONE

    def _lock(self, name, prefix):
        self._board.lock(name, prefix_of(prefix))
        return DONE

    def _free(self, name, prefix):
        self._board.free(name, prefix_of(prefix))
        return DONE

    def _drop(self, name):
        self._board.drop(name)
        return DONE

    def _mark(self, label):
        self._board.mark(label)
        return DONE

    def _back(self, label):
        self._board.back(label)
        return DONE

    def _revise(self, name, prefix, *targets):
        rows = {prefix_of(prefix): [target_of(target) for target in targets]}
        return str(self._board.revise(name, rows))

    def _show(self, name):
        return format_map(self._board.table_of(name)).replace("\n", " / ")

    def _find(self, name, address):
        target = self._board.table_of(name).lookup(address)
        return NO_TARGET if target is None else target

    def _spent(self, name):
        return str(self._board.spent_on(name))

    def _names(self):
        names = self._board.names
        return NO_TARGET if len(names) == 0 else " ".join(names)
