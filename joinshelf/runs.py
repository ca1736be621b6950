"""Runs of some hours, shelves of them, and looks into a shelf."""

from joinshelf.checks import is_between, is_pair
from joinshelf.errors import NoHour, NoKey, NoShelf
from joinshelf.feeds import is_hour, is_key


def run_of(feed, first, last):
    """The run of the hours first to last."""
    if not is_hour(feed, first) or not is_between(first, len(feed.batches) - 1, last):
        raise NoHour()
    kept_from = kept_hours_from(feed)
    needed = {}
    for hour in range(first, last + 1):
        take_batch(needed, feed.batches[hour], first, hour, kept_from)
    return tuple([version for key in sorted(needed) for version in needed[key]])


def kept_hours_from(feed):
    """The list with, for each hour, the least kept hour that is not below it, or one behind all."""
    hours = len(feed.batches)
    return [min([at for at in feed.kept if at >= hour] + [hours]) for hour in range(hours)]


def take_batch(needed, batch, first, hour, kept_from):
    """Lets the batch of an hour come to the run that begins with first.

    The run is told by its keys: needed leads from each key to the list of
    its versions in the run, eldest first.
    """
    for key, value in batch:
        versions = needed.setdefault(key, [])
        # The youngest one so far stays just if it is seen at a kept hour ahead of this one.
        if versions and kept_from[versions[-1][1]] >= hour:
            versions.pop()
        # The run that begins with 0 has nothing elder below it: what is struck
        # there hides only versions that stand ahead in the run itself, and the
        # first of these is never a struck one.
        if versions or first > 0 or value is not None:
            versions.append((key, hour, value))


def run_sizes(feed):
    """For each first hour, how many versions the runs from it to itself and to all later hours have."""
    kept_from = kept_hours_from(feed)
    return tuple([sizes_from(feed, first, kept_from) for first in range(len(feed.batches))])


def sizes_from(feed, first, kept_from):
    """The row of run_sizes for a first hour."""
    needed = {}
    sizes = []
    for hour in range(first, len(feed.batches)):
        take_batch(needed, feed.batches[hour], first, hour, kept_from)
        sizes.append(sum([len(versions) for versions in needed.values()]))
    return tuple(sizes)


def is_shelf(feed, thing):
    """Whether a thing is a shelf of the feed."""
    if not isinstance(thing, tuple) or len(thing) == 0:
        return False
    begin = 0
    for run in thing:
        if not is_pair(run) or not is_between(begin, begin, run[0]):
            return False
        if not is_between(begin, len(feed.batches) - 1, run[1]):
            return False
        begin = run[1] + 1
    return True


def look(feed, shelf, hour, key):
    """The pair of the key's value at the hour and of how many runs of the shelf are looked into."""
    if not is_shelf(feed, shelf):
        raise NoShelf()
    if not can_be_asked(feed, shelf[-1][1], hour):
        raise NoHour()
    if not is_key(key):
        raise NoKey()
    return look_into(feed, shelf, hour, key)


def look_into(feed, shelf, hour, key):
    """What look tells, of arguments that are right ones."""
    looked = 0
    for first, last in reversed([run for run in shelf if run[0] <= hour]):
        looked += 1
        values = [value for told, at, value in run_of(feed, first, last) if told == key and at <= hour]
        if values:
            return (values[-1], looked)
    return (None, looked)


def can_be_asked(feed, last, hour):
    """Whether a thing is the last hour of a shelf, or a kept hour ahead of it."""
    return is_between(0, last, hour) and (hour == last or hour in feed.kept)
