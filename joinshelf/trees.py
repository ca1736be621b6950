"""Trees of plans: the ways in which their batches are written."""

from joinshelf.checks import is_integer, is_pair, is_tuple_of
from joinshelf.errors import NoNumber, NoPlan, NoTree
from joinshelf.plans import MOST_HOURS, begins_by_hour, is_any_plan, is_count


def tree_of(plan):
    """The tree of a plan."""
    if not is_any_plan(plan):
        raise NoPlan()
    last = len(plan) - 1
    return tuple([(top_of(plan, begin, hour - 1), top_of(plan, hour + 1, last)) for hour, begin in enumerate(plan)])


def top_of(plan, first, last):
    """The last hour to the one called last at which the run that begins with first is written, or None.

    A run that is gone never comes back. So the run that begins behind a top
    is written at none of the hours behind those that hang right of it, and
    the end of these need not be known.
    """
    return max([hour for hour in range(first, last + 1) if plan[hour] == first], default=None)


def is_knot(thing):
    """Whether a thing is a pair of integers, or None in the place of one."""
    return is_pair(thing) and all([hung is None or is_integer(hung) for hung in thing])


def plan_behind(thing):
    """The plan whose tree a thing is, or None."""
    if not is_tuple_of(1, MOST_HOURS, thing) or not all([is_knot(knot) for knot in thing]):
        return None
    hung = [hour for knot in thing for hour in knot]
    tops = [hour for hour in range(len(thing)) if hour not in hung]
    if len(tops) != 1:
        return None
    plan = [0] * len(thing)
    waiting = [(tops[0], 0, len(thing) - 1)]
    while waiting:
        top, first, last = waiting.pop()
        if first <= last:
            if top is None or not first <= top <= last:
                return None
            plan[top] = first
            waiting.append((thing[top][0], first, top - 1))
            waiting.append((thing[top][1], top + 1, last))
        elif top is not None:
            return None
    return tuple(plan)


def is_tree(hours, thing):
    """Whether a thing is the tree of some plan of so many hours."""
    if not is_count(hours):
        raise NoNumber()
    return plan_behind(thing) is not None and len(thing) == hours


def plan_of(tree):
    """The plan whose tree this is."""
    plan = plan_behind(tree)
    if plan is None:
        raise NoTree()
    return plan


def times_written(plan):
    """The tuple of how often each batch is written."""
    if not is_any_plan(plan):
        raise NoPlan()
    return tuple([len([begin for begin in plan[hour:] if begin <= hour]) for hour in range(len(plan))])


def runs_at(plan):
    """The tuple of how many runs stand behind each hour."""
    if not is_any_plan(plan):
        raise NoPlan()
    return tuple([len(begins) for begins in begins_by_hour(plan)])
