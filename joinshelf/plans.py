"""Plans, the shelves that they lead to, and their numbers."""

from joinshelf.checks import is_between, is_integer, is_tuple_of
from joinshelf.errors import NoHour, NoNumber, NoPlan, TooMany

MOST_HOURS = 40
MOST_LISTED = 2000


def is_count(thing):
    """Whether a thing is an allowed number of hours, or of runs."""
    return is_between(1, MOST_HOURS, thing)


def is_any_plan(thing):
    """Whether a thing is a plan, of whatever number of hours."""
    if not is_tuple_of(1, MOST_HOURS, thing):
        return False
    begins = []
    for hour, begin in enumerate(thing):
        if not is_integer(begin) or begin not in begins + [hour]:
            return False
        begins = written_behind(begins, begin)
    return True


def is_plan(hours, thing):
    """Whether a thing is a plan of so many hours."""
    if not is_count(hours):
        raise NoNumber()
    return is_any_plan(thing) and len(thing) == hours


def written_behind(begins, begin):
    """The begins of the runs that stand once a run with this begin is written over those with the others."""
    return [other for other in begins if other < begin] + [begin]


def begins_by_hour(plan):
    """The list with, for each hour of a plan, the list of the begins of the runs that stand behind it."""
    found = []
    begins = []
    for begin in plan:
        begins = written_behind(begins, begin)
        found.append(begins)
    return found


def shelf_of(begins, hour):
    """The shelf of the runs with these begins, behind the hour."""
    lasts = [begin - 1 for begin in begins[1:]] + [hour]
    return tuple(zip(begins, lasts))


def shelf_behind(plan, hour):
    """The shelf behind an hour of a plan."""
    if not is_any_plan(plan):
        raise NoPlan()
    if not is_between(0, len(plan) - 1, hour):
        raise NoHour()
    return shelf_of(begins_by_hour(plan)[hour], hour)


def shelves(plan):
    """The list of the shelves behind all hours of a plan."""
    if not is_any_plan(plan):
        raise NoPlan()
    return [shelf_of(begins, hour) for hour, begins in enumerate(begins_by_hour(plan))]


def widest(plan):
    """The greatest number of runs on one shelf of a plan."""
    if not is_any_plan(plan):
        raise NoPlan()
    return max([len(begins) for begins in begins_by_hour(plan)])


def ways_on(hours, most):
    """In how many ways plans go on that never have more than so many runs.

    The list with, for each number of hours that are to come, from 0 to all,
    the list with, for each number of runs that stand, the number of the ways.
    """
    # More runs than hours never stand.
    top = min(hours, most)
    rows = [[1] * (top + 1)]
    for _ in range(hours):
        later = rows[-1]
        # Behind the next hour stand 1 run to one more than now.
        rows.append([sum(later[1:runs + 2]) for runs in range(top + 1)])
    return rows


def plan_with(ways, number):
    """The plan with this number, of as many hours as the ways go on."""
    plan = []
    begins = []
    rest = number
    for hour in range(len(ways) - 1):
        later = ways[len(ways) - 2 - hour]
        # A run that begins earlier leaves fewer runs, so these stand ahead.
        runs = 1
        while rest >= later[runs]:
            rest -= later[runs]
            runs += 1
        begins = (begins + [hour])[:runs]
        plan.append(begins[-1])
    return tuple(plan)


def count_plans(hours, most):
    """The number of the plans of so many hours that never have more than so many runs."""
    if not is_count(hours) or not is_count(most):
        raise NoNumber()
    return ways_on(hours, most)[hours][0]


def plan_at(hours, most, number):
    """The plan with this number among those that count_plans counts, ascending."""
    if not is_between(0, count_plans(hours, most) - 1, number):
        raise NoNumber()
    return plan_with(ways_on(hours, most), number)


def all_plans(hours, most):
    """The ascending list of the plans that count_plans counts."""
    many = count_plans(hours, most)
    if many > MOST_LISTED:
        raise TooMany(MOST_LISTED)
    ways = ways_on(hours, most)
    return [plan_with(ways, number) for number in range(many)]


def plan_number(most, plan):
    """The number of a plan among those of its hours that never have more than so many runs."""
    if not is_count(most):
        raise NoNumber()
    if widest(plan) > most:
        raise NoPlan()
    ways = ways_on(len(plan), most)
    stands = [len(begins) for begins in begins_by_hour(plan)]
    return sum([sum(ways[len(plan) - 1 - hour][1:runs]) for hour, runs in enumerate(stands)])
