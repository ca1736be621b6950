"""Live stores: batches come, runs are joined, and each step can be taken back."""

from joinshelf.checks import is_between
from joinshelf.errors import NoBatch, NoHour, NoKey, NoNumber, NothingDone, TooMany
from joinshelf.feeds import MOST_BATCHES, Feed, is_batch, is_key, sight
from joinshelf.leasts import is_most
from joinshelf.plans import shelf_behind
from joinshelf.runs import can_be_asked, look_into, run_of


class Store:
    """Batches, kept hours and runs."""

    def __init__(self, most):
        if not is_most(most):
            raise NoNumber()
        self._most = most
        # The triple of the batches, the kept hours and the plan: at first, and
        # behind each step that is not taken back. Runs follow from these: to
        # keep the hour of the last batch changes none that stands already.
        self._states = [((), (), ())]

    def put(self, batch, stay):
        """Lets a batch come, so many of the eldest runs staying, all others being joined with it."""
        if not is_batch(batch):
            raise NoBatch()
        batches, kept, plan = self._states[-1]
        begins = [first for first, _ in self._shelf()]
        if not is_between(0, min(len(begins), self._most - 1), stay):
            raise NoNumber()
        if len(batches) == MOST_BATCHES:
            raise TooMany(MOST_BATCHES)
        begin = (begins + [len(batches)])[stay]
        self._states.append((batches + (batch,), kept, plan + (begin,)))

    def keep(self):
        """Makes the hour of the last batch a kept one."""
        batches, kept, plan = self._states[-1]
        last = len(batches) - 1
        if last < 0 or last in kept:
            raise NoHour()
        self._states.append((batches, kept + (last,), plan))

    def runs(self):
        """The list of the runs, eldest first."""
        feed = self.feed()
        return [run_of(feed, first, last) for first, last in self._shelf()]

    def look(self, key):
        """The pair of the key's value now and of how many runs are looked into."""
        if not is_key(key):
            raise NoKey()
        feed = self.feed()
        if feed is None:
            return (None, 0)
        return look_into(feed, self._shelf(), len(feed.batches) - 1, key)

    def look_at(self, hour, key):
        """The pair of the key's value at the last hour or at a kept one, and of how many runs are looked into."""
        feed = self.feed()
        if feed is None or not can_be_asked(feed, len(feed.batches) - 1, hour):
            raise NoHour()
        if not is_key(key):
            raise NoKey()
        return look_into(feed, self._shelf(), hour, key)

    def stretch(self, low, high):
        """The ascending list of the pairs of a key from low to high and of its value that are seen now."""
        if not is_key(low) or not is_key(high):
            raise NoKey()
        feed = self.feed()
        if feed is None:
            return []
        values = sight(feed, len(feed.batches) - 1)
        return [(key, values[key]) for key in sorted(values) if low <= key <= high]

    def rows(self):
        """How many versions were written so far, all runs together."""
        feed = self.feed()
        return sum([len(run_of(feed, begin, hour)) for hour, begin in enumerate(self.plan())])

    def feed(self):
        """The feed so far, None without batches."""
        batches, kept, _ = self._states[-1]
        return Feed(batches, kept) if batches else None

    def plan(self):
        """The plan so far, () without batches."""
        return self._states[-1][2]

    def back(self):
        """Takes back the last put or keep that is not taken back."""
        if self.steps() == 0:
            raise NothingDone()
        self._states.pop()

    def steps(self):
        """How many steps can be taken back."""
        return len(self._states) - 1

    def copy(self):
        """Another store that goes on apart."""
        other = Store(self._most)
        other._states = list(self._states)
        return other

    def trying(self, action):
        """What the action returns, called with the store, which is then again what it was."""
        before = self._states
        self._states = list(before)
        try:
            return action(self)
        finally:
            self._states = before

    def _shelf(self):
        """The shelf that stands, () without batches."""
        plan = self.plan()
        return shelf_behind(plan, len(plan) - 1) if plan else ()
