"""What plans and wide plans cost."""

from joinshelf.errors import NoPlan, NoWide
from joinshelf.plans import begins_by_hour, is_any_plan
from joinshelf.wides import is_any_wide, wide_writes


def is_task_plan(task, thing):
    """Whether a thing is a plan of the hours of the task."""
    return is_any_plan(thing) and len(thing) == len(task.writes)


def look_price(looks, begins, hour):
    """What looks cost at the hour if the runs with these begins stand."""
    return sum([looks[begin][hour - begin] for begin in begins])


def written(task, plan):
    """The list of what each hour's writing costs."""
    if not is_task_plan(task, plan):
        raise NoPlan()
    return [task.writes[begin][hour - begin] for hour, begin in enumerate(plan)]


def looked_at(task, plan):
    """The list of what each hour's looks cost."""
    if not is_task_plan(task, plan):
        raise NoPlan()
    return [look_price(task.looks, begins, hour) for hour, begins in enumerate(begins_by_hour(plan))]


def cost(task, plan):
    """What all writing and all looks of a plan cost together."""
    return sum(written(task, plan)) + sum(looked_at(task, plan))


def greatest_written(task, plan):
    """The greatest cost of an hour's writing."""
    return max(written(task, plan))


def wide_written(task, wide):
    """The list of what each hour's writing costs in a wide plan."""
    if not is_any_wide(wide) or len(wide) != len(task.writes):
        raise NoWide()
    return [sum([task.writes[first][last - first] for first, last in runs]) for runs in wide_writes(wide)]


def wide_cost(task, wide):
    """What all writing and all looks of a wide plan cost together."""
    writing = sum(wide_written(task, wide))
    return writing + sum([look_price(task.looks, begins, hour) for hour, begins in enumerate(wide)])


def wide_greatest(task, wide):
    """The greatest cost of an hour's writing in a wide plan."""
    return max(wide_written(task, wide))
