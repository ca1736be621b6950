"""Tasks: what it costs to write runs, and to look into them."""

from joinshelf.checks import is_between, is_row, is_tuple_of
from joinshelf.errors import BadTask, NoHour, NoLooked, NoNumber, NoSizes, TooMany
from joinshelf.feeds import is_key
from joinshelf.runs import run_sizes

MOST_TASK_HOURS = 30
MOST_PRICE = 10 ** 9
MOST_LOOKED_FOR = 60
MOST_SIZE = 10 ** 6


class Task:
    """What it costs to write the run of each stretch of hours, and that a run stands at each hour."""

    def __init__(self, writes, looks):
        if not is_tuple_of(1, MOST_TASK_HOURS, writes):
            raise BadTask("writes", -1)
        for first, row in enumerate(writes):
            if not is_row(len(writes) - first, MOST_PRICE, row):
                raise BadTask("writes", first)
        if not is_tuple_of(len(writes), len(writes), looks):
            raise BadTask("looks", -1)
        for first, row in enumerate(looks):
            if not is_row(len(writes) - first, MOST_PRICE, row):
                raise BadTask("looks", first)
        self.writes = writes
        self.looks = looks

    def __eq__(self, other):
        return isinstance(other, Task) and self.writes == other.writes and self.looks == other.looks


def is_task_hour(task, thing):
    """Whether a thing is an hour of the task."""
    return is_between(0, len(task.writes) - 1, thing)


def is_looked_for(thing):
    """Whether a thing can be looked for: a key, or None, for which all runs are looked into."""
    return thing is None or is_key(thing)


def is_looked(hours, thing):
    """Whether a thing tells what is looked for behind each of so many hours."""
    if not is_tuple_of(hours, hours, thing) or not all([is_tuple_of(0, MOST_LOOKED_FOR, row) for row in thing]):
        return False
    return all([is_looked_for(sought) for row in thing for sought in row])


def newest_versions(feed, looked):
    """For each hour, the list with, for each thing looked for, the greatest hour so far with a version of it.

    That is 0 if there is none: then, too, all runs are looked into.
    """
    newest = {}
    found = []
    for hour, batch in enumerate(feed.batches):
        for key, _ in batch:
            newest[key] = hour
        found.append([newest.get(sought, 0) for sought in looked[hour]])
    return found


def look_row(found, first):
    """The looks of the task of a feed for the begin called first, newest_versions having found these hours."""
    # Whatever is looked for, the eldest run it comes to counts for the begin 0,
    # and those above it for their own.
    return tuple([len([hour for hour in hours if first == 0 or hour < first]) for hours in found[first:]])


def task_of(feed, looked):
    """The task whose writes are the sizes of the feed's runs, its looks those into runs for what is looked for."""
    hours = len(feed.batches)
    if hours > MOST_TASK_HOURS:
        raise TooMany(MOST_TASK_HOURS)
    if not is_looked(hours, looked):
        raise NoLooked()
    found = newest_versions(feed, looked)
    return Task(run_sizes(feed), tuple([look_row(found, first) for first in range(hours)]))


def task_of_sizes(sizes, look):
    """The task in which each stretch costs its sizes together, and each run look at each hour."""
    if not is_tuple_of(1, MOST_TASK_HOURS, sizes) or not is_row(len(sizes), MOST_SIZE, sizes):
        raise NoSizes()
    if not is_between(0, MOST_SIZE, look):
        raise NoNumber()
    hours = len(sizes)
    writes = [tuple([sum(sizes[first:last + 1]) for last in range(first, hours)]) for first in range(hours)]
    return Task(tuple(writes), tuple([(look,) * (hours - first) for first in range(hours)]))


def task_part(task, first, last):
    """The task of the hours first to last by themselves."""
    if not is_task_hour(task, first) or not is_between(first, len(task.writes) - 1, last):
        raise NoHour()
    begins = range(first, last + 1)
    writes = [task.writes[begin][:last - begin + 1] for begin in begins]
    looks = [task.looks[begin][:last - begin + 1] for begin in begins]
    return Task(tuple(writes), tuple(looks))
