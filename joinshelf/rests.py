"""Least plans from a shelf that stands already, and what is sure of least plans."""

from joinshelf.checks import is_between
from joinshelf.costs import look_price
from joinshelf.errors import NoHour, NoNumber, NoPlan
from joinshelf.leasts import cost_and_plan, is_most, least, stand_tables, with_begins
from joinshelf.plans import begins_by_hour, is_any_plan
from joinshelf.rules import least_under
from joinshelf.tasks import is_task_hour


def stay_costs(looks, begins, above, hour, joins):
    """What the hours from one on cost, by each hour behind it at which a run of those with these begins is written.

    Until then, or to the end, new runs stand above these: the row above tells
    what they cost. joins tells what the hours cost from the one on at which
    one is written.
    """
    costs = []
    looked = 0
    for at, price in enumerate(above):
        looked += look_price(looks, begins, hour + at)
        costs.append(price + looked + joins[hour + at + 1])
    return costs


def cost_behind(writes, looks, most, begins, first):
    """The least cost of the hours from the one called first on, if runs with these begins stand ahead of it.

    It is found from the last hour on, for the runs up to each one of these:
    joins has, by hours, the least cost if one of them is written then, costs
    that if no other runs stand then.
    """
    hours = len(writes)
    tables = stand_tables(writes, looks, most)
    joins = [[0] * (hours + 1) for _ in begins]
    costs = [[0] * (hours + 1) for _ in begins]
    for hour in range(hours - 1, first - 1, -1):
        ways = []
        for at, begin in enumerate(begins[:most]):
            price = writes[begin][hour - begin] + look_price(looks, begins[:at + 1], hour)
            ways.append(price + costs[at][hour + 1])
        for at in range(len(begins)):
            joins[at][hour] = min(ways[:at + 1])
            costs[at][hour] = joins[at][hour]
            left = min(most - at - 1, len(tables) - 1)
            if left > 0:
                stays = stay_costs(looks, begins[:at + 1], tables[left][hour], hour, joins[at])
                costs[at][hour] = min(stays + [joins[at][hour]])
    return costs[-1][first]


def rest(task, most, begun):
    """The pair of the least cost of the hours behind a begun plan, and of the least whole plan that has it."""
    if not is_most(most):
        raise NoNumber()
    hours = len(task.writes)
    if not is_any_plan(begun) or len(begun) >= hours:
        raise NoPlan()
    writes, looks = with_begins(task.writes, task.looks)
    price, plan = cost_and_plan(hours, cost_behind(writes, looks, most, begins_by_hour(begun)[-1], len(begun)))
    return (price, begun + plan[len(begun):])


def dearer_by(task, most, hour, begin, best):
    """By how much plans in which the run written at the hour has this begin cost more than the best, or None."""
    found = least_under(task, most, [("begins", hour, begin)])
    return None if found is None else found[0] - best


def choices_at(task, most, hour):
    """The ascending tuple of the begins with which the run written at the hour begins in some least plan."""
    best = least(task, most)
    if not is_task_hour(task, hour):
        raise NoHour()
    return tuple([begin for begin in range(hour + 1) if dearer_by(task, most, hour, begin, best) == 0])


def dearer(task, most, hour, begin):
    """By how much the least cost is greater if the run written at the hour has this begin, None if none can."""
    best = least(task, most)
    if not is_task_hour(task, hour) or not is_between(0, hour, begin):
        raise NoHour()
    return dearer_by(task, most, hour, begin, best)
