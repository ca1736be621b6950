"""A desk: stores under names, led by lines."""

from joinshelf.errors import NoLine, NoName, NothingDone
from joinshelf.leasts import least
from joinshelf.plans import shelf_behind
from joinshelf.reading import is_number_word, pairs_told
from joinshelf.stores import Store
from joinshelf.tasks import task_of
from joinshelf.texts import pairs_text, plan_text

LETTERS = "abcdefghijklmnopqrstuvwxyz"
MOST_LETTERS = 8

# How many numbers stand behind the name, for each line that has one.
NUMBERS = {
    "store": 1, "put": 1, "keep": 0, "drop": 0, "look": 1, "at": 2, "stretch": 2, "runs": 0, "rows": 0, "plan": 0,
    "least": 1,
}

# The lines with a name that can be taken back.
CHANGES = ("store", "put", "keep", "drop")


def is_name(word):
    """Whether a word is a name."""
    return 1 <= len(word) <= MOST_LETTERS and all([sign in LETTERS for sign in word])


def has_form(words):
    """Whether these are the words of a line."""
    if words[0] == "undo" or words[0] == "names":
        return len(words) == 1
    if words[0] not in NUMBERS or len(words) < 2 or not is_name(words[1]):
        return False
    behind = 2 + NUMBERS[words[0]]
    if not all([is_number_word(word) for word in words[2:behind]]):
        return False
    return pairs_told(words[behind:]) is not None if words[0] == "put" else len(words) == behind


def words_of(line):
    """The list of the words of a line."""
    if not isinstance(line, str):
        raise NoLine()
    words = line.split(" ")
    if not has_form(words):
        raise NoLine()
    return words


def found_text(found):
    """The text of what a look tells."""
    value, looked = found
    return f"none {looked}" if value is None else f"{value} {looked}"


def runs_text(store):
    """The text of the runs of a store."""
    plan = store.plan()
    if not plan:
        return "none"
    shelf = shelf_behind(plan, len(plan) - 1)
    return " ".join([f"{first}-{last}:{len(run)}" for (first, last), run in zip(shelf, store.runs())])


def least_text(store, most):
    """The text of the least cost for the batches of a store, nothing being looked for."""
    feed = store.feed()
    if feed is None:
        return "0"
    return str(least(task_of(feed, ((),) * len(feed.batches)), most))


def answer(store, word, numbers):
    """What is answered to a line that begins with this word and asks something of a store."""
    if word == "look":
        return found_text(store.look(numbers[0]))
    if word == "at":
        return found_text(store.look_at(numbers[0], numbers[1]))
    if word == "stretch":
        return pairs_text(store.stretch(numbers[0], numbers[1]))
    if word == "runs":
        return runs_text(store)
    if word == "rows":
        return str(store.rows())
    if word == "plan":
        return plan_text(store.plan()) if store.plan() else "none"
    return least_text(store, numbers[0])


def changed(store, words, numbers):
    """The store that stands in the place of another one, or of None, behind a line, None if none is left there."""
    if words[0] == "store":
        return Store(numbers[0])
    if words[0] == "drop":
        return None
    # The store itself stays as it is, so that the line can be taken back.
    later = store.copy()
    if words[0] == "put":
        later.put(pairs_told(words[3:]), numbers[0])
    else:
        later.keep()
    return later


class Desk:
    """Stores under names."""

    def __init__(self):
        self._stores = {}
        # For each line that can be taken back, the name that it changed, and
        # the store that was kept under it, None for none.
        self._done = []

    def tell(self, line):
        """Does what a line tells, and returns the answer."""
        words = words_of(line)
        if words[0] == "names":
            return " ".join(sorted(self._stores)) if self._stores else "none"
        if words[0] == "undo":
            self._undo()
            return "ok"
        name = words[1]
        if words[0] != "store" and name not in self._stores:
            raise NoName(name)
        numbers = [int(word) for word in words[2:2 + NUMBERS[words[0]]]]
        if words[0] not in CHANGES:
            return answer(self._stores[name], words[0], numbers)
        elder = self._stores.get(name)
        self._place(name, changed(elder, words, numbers))
        self._done.append((name, elder))
        return "ok"

    def undoable(self):
        """How many lines can be taken back."""
        return len(self._done)

    def _undo(self):
        """Takes back the last line that changed something and is not taken back."""
        if not self._done:
            raise NothingDone()
        name, elder = self._done.pop()
        self._place(name, elder)

    def _place(self, name, store):
        """Keeps a store under a name, or nothing for None."""
        if store is None:
            del self._stores[name]
        else:
            self._stores[name] = store
