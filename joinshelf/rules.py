"""Rules that plans keep, and the least plans that keep them."""

from joinshelf.checks import is_between, is_integer, is_tuple_of
from joinshelf.costs import is_task_plan
from joinshelf.errors import NoNumber, NoPlan, NoRules
from joinshelf.leasts import cost_and_plan, is_most, least_row, stand_tables, told_price, with_begins
from joinshelf.tasks import is_task_hour

MOST_RULES = 20


def is_rule(task, thing):
    """Whether a thing is a rule for the task."""
    if not is_tuple_of(2, 3, thing):
        return False
    if thing[0] == "limit":
        return len(thing) == 2 and is_integer(thing[1]) and thing[1] >= 0
    if not is_task_hour(task, thing[1]):
        return False
    if thing[0] == "closed":
        return len(thing) == 2
    if thing[0] == "begins":
        return len(thing) == 3 and is_between(0, thing[1], thing[2])
    return thing[0] == "due" and len(thing) == 3 and is_between(thing[1], len(task.writes) - 1, thing[2])


def are_rules(task, thing):
    """Whether a thing is a list or tuple of rules for the task."""
    if not isinstance(thing, (list, tuple)) or len(thing) > MOST_RULES:
        return False
    return all([is_rule(task, rule) for rule in thing])


def may_write(task, rule, begin, hour):
    """Whether a rule lets the run with this begin be written at the hour. A due rule lets any."""
    if rule[0] == "limit":
        return task.writes[begin][hour - begin] <= rule[1]
    if rule[0] == "due" or hour != rule[1]:
        return True
    return begin == (hour if rule[0] == "closed" else rule[2])


def is_kept(task, plan, rule):
    """Whether a plan keeps a rule."""
    if rule[0] == "due":
        return 0 in plan[rule[1]:rule[2] + 1]
    return all([may_write(task, rule, begin, hour) for hour, begin in enumerate(plan)])


def keeps(task, plan, rules):
    """Whether a plan keeps all rules."""
    if not is_task_plan(task, plan):
        raise NoPlan()
    if not are_rules(task, rules):
        raise NoRules()
    return all([is_kept(task, plan, rule) for rule in rules])


def barred_row(task, rules, begin, bar):
    """The writes for a begin, dearer by the bar wherever a rule does not let the run be written."""
    row = []
    for at, price in enumerate(task.writes[begin]):
        free = all([may_write(task, rule, begin, begin + at) for rule in rules])
        row.append(price if free else price + bar)
    return row


def is_missed(rules, first, last):
    """Whether a due rule is broken if the run that begins with 0 is not written from the hour first to last."""
    return any([rule[0] == "due" and first <= rule[1] and rule[2] <= last for rule in rules])


def above_eldest(rules, writes, looks, most, bar):
    """What runs cost that stand right above the one that begins with 0, for each of their begins.

    As long as such a run stands, the one below it is not written: where that
    breaks a due rule, it costs more by the bar.
    """
    above = []
    for first, row in enumerate(stand_tables(writes, looks, most - 1)[-1]):
        missed = [is_missed(rules, first, first + at) for at in range(len(row))]
        above.append([price + bar if late else price for price, late in zip(row, missed)])
    return above[1:]


def least_kept(task, most, rules):
    """What least_under tells, of rules that are right ones or limits below 0."""
    hours = len(task.writes)
    # Dearer than any plan, so a plan that breaks a rule costs more than each that breaks none.
    bar = 1 + sum([sum(row) for row in task.writes + task.looks])
    barred = [barred_row(task, rules, begin, bar) for begin in range(hours)]
    writes, looks = with_begins(barred, task.looks)
    above = above_eldest(rules, writes, looks, most, told_price(hours, bar))
    price, plan = cost_and_plan(hours, least_row(writes[0], above)[-1] + sum(looks[0]))
    return (price, plan) if price < bar else None


def least_under(task, most, rules):
    """The pair of the least cost of a plan that keeps all rules, and of the least such plan, or None."""
    if not is_most(most):
        raise NoNumber()
    if not are_rules(task, rules):
        raise NoRules()
    return least_kept(task, most, rules)
