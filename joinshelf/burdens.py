"""Sizes of batches, the keeper by credits, and burdens: what no plan goes below.

Here a run costs the sizes of its batches, added, when it is written, and looks
cost nothing.
"""

from itertools import accumulate

from joinshelf.checks import is_between, is_integer, is_pair, is_tuple_of
from joinshelf.errors import NoBurden, NoNumber, NoPlan, NoSizes
from joinshelf.leasts import is_most, stand_tables
from joinshelf.plans import MOST_HOURS, begins_by_hour, is_any_plan
from joinshelf.tasks import MOST_SIZE


def is_sizes(thing):
    """Whether a thing is a tuple of sizes, one for each hour."""
    return is_tuple_of(1, MOST_HOURS, thing) and all([is_between(1, MOST_SIZE, size) for size in thing])


def check_sizes(sizes, most):
    """Raises the error for what are no sizes, or no number of runs that may stand at once."""
    if not is_sizes(sizes):
        raise NoSizes()
    if not is_most(most):
        raise NoNumber()


def is_sizes_plan(sizes, thing):
    """Whether a thing is a plan of as many hours as there are sizes."""
    return is_any_plan(thing) and len(thing) == len(sizes)


def least_writing(sizes, most):
    """The least cost of a plan."""
    check_sizes(sizes, most)
    writes = [list(accumulate(sizes[first:])) for first in range(len(sizes))]
    looks = [[0] * len(row) for row in writes]
    return stand_tables(writes, looks, most)[-1][0][-1]


def writing(sizes, plan):
    """The cost of a plan."""
    if not is_sizes(sizes):
        raise NoSizes()
    if not is_sizes_plan(sizes, plan):
        raise NoPlan()
    return sum([sum(sizes[begin:hour + 1]) for hour, begin in enumerate(plan)])


def plan_with_raises(sizes, most):
    """The pair of the plan of the keeper by credits and of the tuple of its raises."""
    plan = []
    lifts = []
    # Pairs of the begin of a run and of what its credit lacks to its own size.
    standing = []
    for hour in range(len(sizes)):
        begin = hour
        lift = 0
        if len(standing) == most:
            lift = min([lack for _, lack in standing])
            begin = min([first for first, lack in standing if lack == lift])
        standing = [(first, lack - lift) for first, lack in standing if first < begin]
        standing.append((begin, sum(sizes[begin:hour + 1])))
        plan.append(begin)
        lifts.append(lift)
    return (tuple(plan), tuple(lifts))


def by_credits(sizes, most):
    """The plan of the keeper by credits."""
    check_sizes(sizes, most)
    return plan_with_raises(sizes, most)[0]


def raises(sizes, most):
    """The tuple of the raises of the keeper by credits, 0 for each hour at which there is none."""
    check_sizes(sizes, most)
    return plan_with_raises(sizes, most)[1]


def is_narrow_plan(sizes, most, thing):
    """Whether a thing is a plan of as many hours as there are sizes, with never more than so many runs."""
    return is_sizes_plan(sizes, thing) and max([len(begins) for begins in begins_by_hour(thing)]) <= most


def are_raises(plan, most, thing):
    """Whether a thing has an integer from 0 on for each hour of the plan, 0 unless most runs stand ahead of it."""
    if not is_tuple_of(len(plan), len(plan), thing):
        return False
    if not all([is_integer(lift) and lift >= 0 for lift in thing]):
        return False
    ahead = [0] + [len(begins) for begins in begins_by_hour(plan)]
    return all([lift == 0 or runs == most for lift, runs in zip(thing, ahead)])


def is_bearable(sizes, plan, lifts, hour):
    """Whether the run that is written at the hour has at least the size of all raises that come while it stands."""
    last = len(plan) - 1
    joined = min([later for later in range(hour + 1, last + 1) if plan[later] <= plan[hour]], default=last)
    return sum(lifts[hour + 1:joined + 1]) <= sum(sizes[plan[hour]:hour + 1])


def is_burden(sizes, most, thing):
    """Whether a thing is a burden for the sizes and most."""
    check_sizes(sizes, most)
    if not is_pair(thing) or not is_narrow_plan(sizes, most, thing[0]):
        return False
    plan, lifts = thing
    return are_raises(plan, most, lifts) and all([is_bearable(sizes, plan, lifts, hour) for hour in range(len(plan))])


def weight(sizes, most, thing):
    """What a burden weighs: no plan costs less."""
    if not is_burden(sizes, most, thing):
        raise NoBurden()
    return sum(thing[1]) + sum(sizes)
