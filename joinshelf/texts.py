"""Texts of batches, feeds and plans."""

from joinshelf.errors import NoBatch, NoPlan
from joinshelf.feeds import is_batch
from joinshelf.plans import is_any_plan


def pair_text(pair):
    """The word for a key and its value."""
    key, value = pair
    return f"{key}-" if value is None else f"{key}={value}"


def pairs_text(pairs):
    """The text of pairs of a key and its value, however many."""
    return " ".join([pair_text(pair) for pair in pairs]) if pairs else "-"


def batch_text(batch):
    """The text of a batch."""
    if not is_batch(batch):
        raise NoBatch()
    return pairs_text(batch)


def feed_text(feed):
    """The text of a feed."""
    lines = ["batch " + pairs_text(batch) for batch in feed.batches]
    if feed.kept:
        lines.append("kept " + " ".join([str(hour) for hour in feed.kept]))
    return "".join([line + "\n" for line in lines])


def plan_text(plan):
    """The text of a plan."""
    if not is_any_plan(plan):
        raise NoPlan()
    return ",".join([str(begin) for begin in plan])
