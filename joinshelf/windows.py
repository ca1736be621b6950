"""Tables of the numbers of unlike keys in stretches of some batches."""

from joinshelf.checks import is_row, is_tuple_of
from joinshelf.errors import NoTable, TooMany
from joinshelf.feeds import MOST_PAIRS, Feed

MOST_ROWS = 12
MOST_ENTRY = 1000


def is_table(thing):
    """Whether a thing is a table."""
    if not is_tuple_of(1, MOST_ROWS, thing):
        return False
    return all([is_row(len(thing) - first, MOST_ENTRY, row) for first, row in enumerate(thing)])


def windows(feed):
    """The table of how many unlike keys the batches of the hours a to m have together."""
    if len(feed.batches) > MOST_ROWS:
        raise TooMany(MOST_ROWS)
    return tuple([window_row(feed, first) for first in range(len(feed.batches))])


def window_row(feed, first):
    """The row of the windows for a first hour."""
    met = {}
    row = []
    for batch in feed.batches[first:]:
        for key, _ in batch:
            met[key] = True
        row.append(len(met))
    return tuple(row)


def comes_next(feed):
    """The table of how many keys of the batch a come again first in the batch m."""
    if len(feed.batches) > MOST_ROWS:
        raise TooMany(MOST_ROWS)
    return tuple([next_row(feed, first) for first in range(len(feed.batches))])


def next_row(feed, first):
    """The row of comes_next for a first hour."""
    waiting = {key: True for key, _ in feed.batches[first]}
    row = [0]
    for batch in feed.batches[first + 1:]:
        coming = [key for key, _ in batch if key in waiting]
        for key in coming:
            del waiting[key]
        row.append(len(coming))
    return tuple(row)


def back(table, first, last):
    """What back(a, m) is for a table, and 0 if m is a."""
    if last == first:
        return 0
    within = table[first + 1][last - first - 2] if last > first + 1 else 0
    return table[first][last - first - 1] + table[first + 1][last - first - 1] - table[first][last - first] - within


def back_rows(table):
    """All numbers back(a, m) of a table, laid out as the table is."""
    hours = range(len(table))
    return [[back(table, first, last) for last in range(first, len(table))] for first in hours]


def windows_bar(table):
    """The first reason for which the table is not the windows of any feed, or None."""
    if not is_table(table):
        raise NoTable()
    hours = range(len(table))
    rows = back_rows(table)
    for first in hours:
        if table[first][0] > MOST_PAIRS:
            return ("size", first)
    for first in hours:
        for last in range(first + 1, len(table)):
            if rows[first][last - first] < 0:
                return ("back", first, last)
    for first in hours:
        if sum(rows[first]) > table[first][0]:
            return ("on", first)
    for last in hours:
        if sum([rows[first][last - first] for first in range(last)]) > table[last][0]:
            return ("from", last)
    return None


def feed_of(table):
    """A feed whose windows are the table, or None."""
    if windows_bar(table) is not None:
        return None
    rows = back_rows(table)
    batches = []
    # For each hour so far, the keys that came last at it: each of them comes
    # again at most once from there, so any of them may.
    latest = []
    fresh = 0
    for hour in range(len(table)):
        keys = []
        for first in range(hour):
            many = rows[first][hour - first]
            keys.extend(latest[first][:many])
            latest[first] = latest[first][many:]
        unmet = table[hour][0] - len(keys)
        keys.extend(list(range(fresh, fresh + unmet)))
        fresh += unmet
        latest.append(keys)
        batches.append(tuple([(key, hour) for key in sorted(keys)]))
    return Feed(tuple(batches), ())
