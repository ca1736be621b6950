"""Wide plans, which join neighbours anywhere, and the plans that do no worse."""

from joinshelf.checks import is_ascending_between, is_tuple_of
from joinshelf.errors import NoNumber, NoPlan, NoWide
from joinshelf.plans import MOST_HOURS, begins_by_hour, is_any_plan, is_count, shelf_of


def is_any_wide(thing):
    """Whether a thing is a wide plan, of whatever number of hours."""
    if not is_tuple_of(1, MOST_HOURS, thing):
        return False
    ahead = ()
    for hour, begins in enumerate(thing):
        if not is_ascending_between(0, hour, begins) or 0 not in begins:
            return False
        if not all([begin == hour or begin in ahead for begin in begins]):
            return False
        ahead = begins
    return True


def is_wide(hours, thing):
    """Whether a thing is a wide plan of so many hours."""
    if not is_count(hours):
        raise NoNumber()
    return is_any_wide(thing) and len(thing) == hours


def wide_of(plan):
    """The wide plan that a plan is."""
    if not is_any_plan(plan):
        raise NoPlan()
    return tuple([tuple(begins) for begins in begins_by_hour(plan)])


def wide_writes(wide):
    """The list, by hours, of the lists of the runs that are written."""
    if not is_any_wide(wide):
        raise NoWide()
    writes = []
    ahead = ()
    for hour, begins in enumerate(wide):
        shelf = shelf_of(begins, hour)
        writes.append([run for run in shelf if run not in ahead])
        ahead = shelf
    return writes


def gone_early(wide, begin):
    """The hour behind which a begin is to be gone in the straightened plan, or one behind all."""
    for hour in range(begin, len(wide)):
        if begin not in wide[hour]:
            above = [other for other in wide[hour] if other > begin]
            # What stands above it now ended the run into which it was joined.
            return above[0] - 1 if above else hour
    return len(wide)


def straightened(wide):
    """The plan without joins in the midst that does no worse than the wide plan."""
    if not is_any_wide(wide):
        raise NoWide()
    gone = [gone_early(wide, begin) for begin in range(len(wide))]
    plan = []
    for hour in range(len(wide)):
        plan.append(max([begin for begin in range(hour + 1) if gone[begin] > hour]))
    return tuple(plan)
