"""Batches, feeds of them, and what is seen at an hour."""

from joinshelf.checks import is_ascending, is_ascending_between, is_between, is_integer, is_pair, is_tuple_of
from joinshelf.errors import BadFeed, NoHour, NoKey

MOST_KEY = 999
MOST_PAIRS = 60
MOST_BATCHES = 40


def is_key(thing):
    """Whether a thing is a key."""
    return is_between(0, MOST_KEY, thing)


def is_told(thing):
    """Whether a thing is a pair of a key and its value, None for a struck key."""
    return is_pair(thing) and is_key(thing[0]) and (thing[1] is None or is_integer(thing[1]))


def is_batch(thing):
    """Whether a thing is a batch."""
    if not is_tuple_of(0, MOST_PAIRS, thing) or not all([is_told(pair) for pair in thing]):
        return False
    return is_ascending([key for key, _ in thing])


class Feed:
    """Batches, one for each hour, and the hours whose sights stay askable for ever."""

    def __init__(self, batches, kept):
        if not is_tuple_of(1, MOST_BATCHES, batches):
            raise BadFeed("batches", -1)
        for hour, batch in enumerate(batches):
            if not is_batch(batch):
                raise BadFeed("batches", hour)
        if not is_ascending_between(0, len(batches) - 1, kept):
            raise BadFeed("kept", -1)
        self.batches = batches
        self.kept = kept

    def __eq__(self, other):
        return isinstance(other, Feed) and self.batches == other.batches and self.kept == other.kept


def is_hour(feed, thing):
    """Whether a thing is an hour of the feed."""
    return is_between(0, len(feed.batches) - 1, thing)


def sight(feed, hour):
    """The dict from all keys that are seen at the hour to their values."""
    if not is_hour(feed, hour):
        raise NoHour()
    values = {}
    for batch in feed.batches[:hour + 1]:
        for key, value in batch:
            values[key] = value
    return {key: values[key] for key in values if values[key] is not None}


def value_at(feed, hour, key):
    """The value that the sight at the hour tells for the key, None for what is not seen."""
    if not is_hour(feed, hour):
        raise NoHour()
    if not is_key(key):
        raise NoKey()
    return sight(feed, hour).get(key)
