"""Least plans, and what they cost.

A run that stands from an hour to another parts the hours between at the last
one at which it is written, its top. Ahead of the top the same run stands, behind
it others stand above it. So the least costs of stretches of hours are found
from those of shorter ones.
"""

from heapq import heappop, heappush
from itertools import accumulate
from math import comb

from joinshelf.checks import is_between
from joinshelf.errors import NoNumber, TooMany

MOST_RUNS = 30
MOST_LEAST = 2000
MOST_ALIKE_HOURS = 100000
MOST_ALIKE_PRICE = 10 ** 6

# Begins of at most 30 hours fit into so many bits.
BEGIN_BITS = 5


def is_most(thing):
    """Whether a thing is an allowed number of runs that may stand at once."""
    return is_between(1, MOST_RUNS, thing)


def least_row(write_row, above):
    """The least costs from the begin of a run to each hour from there on, its own looks not counted.

    above has, for each later begin, the row of what a run that stands from it
    on costs, with its looks; it is empty if no run may stand above this one.
    """
    row = []
    tops = []
    for last, price in enumerate(write_row):
        tops.append(price + (row[-1] if row else 0))
        parted = [tops[top] + later[last - top - 1] for top, later in enumerate(above[:last])]
        row.append(min(parted + [tops[last]]))
    return row


def with_looks(row, look_row):
    """A row of costs from the begin of a run to each hour from there on, with what its looks cost until then."""
    return [price + looked for price, looked in zip(row, accumulate(look_row))]


def stand_tables(writes, looks, most):
    """The list with, for each number of runs from 0 to most, a table of least costs.

    Its entry (a, b) is that of the hours a to b, if a run stands from the one
    to the other, and at most so many with it, looks counted. For no runs
    there are no rows. More runs than hours are never needed, and left out.
    """
    hours = len(writes)
    top = min(most, hours)
    tables = [[]]
    for runs in range(1, top + 1):
        above = tables[-1]
        table = []
        for first in range(hours):
            if first < top - runs:
                # A run never stands above more runs than there are hours ahead of it.
                table.append([])
            elif hours - first < runs:
                # Nor do more runs stand than there are hours from its begin on.
                table.append(above[first])
            else:
                table.append(with_looks(least_row(writes[first], above[first + 1:]), looks[first]))
        tables.append(table)
    return tables


def told_price(hours, price):
    """A price as one of the costs that also tell plans of so many hours."""
    return price << (BEGIN_BITS * hours)


def begin_place(hours, hour):
    """How far the begin that is written at an hour stands from the lowest figure."""
    return BEGIN_BITS * (hours - hour - 1)


def with_begins(writes, looks):
    """The pair of tables of costs that also tell plans.

    Behind each cost stands, as a lower figure of the same number, the begin
    that is written. So the least of these costs tells the least plan of the
    least cost.
    """
    hours = len(writes)
    told = []
    for begin, row in enumerate(writes):
        begins = [begin << begin_place(hours, begin + at) for at in range(len(row))]
        told.append([told_price(hours, price) + place for price, place in zip(row, begins)])
    return told, [[told_price(hours, price) for price in row] for row in looks]


def cost_and_plan(hours, told):
    """The pair of the cost and the plan that one of the costs that also tell plans tells.

    For hours that it tells nothing of, the begin is 0.
    """
    begins = [(told >> begin_place(hours, hour)) & ((1 << BEGIN_BITS) - 1) for hour in range(hours)]
    return told >> (BEGIN_BITS * hours), tuple(begins)


def least(task, most):
    """The least cost of a plan."""
    if not is_most(most):
        raise NoNumber()
    return stand_tables(task.writes, task.looks, most)[-1][0][-1]


def least_plan(task, most):
    """The least plan of the least cost."""
    if not is_most(most):
        raise NoNumber()
    writes, looks = with_begins(task.writes, task.looks)
    return cost_and_plan(len(writes), stand_tables(writes, looks, most)[-1][0][-1])[1]


def cost_by_top(task, tables, runs, first, last, top):
    """What a stretch costs with this top, looks counted, as tables tell what its parts cost."""
    price = task.writes[first][top - first] + sum(task.looks[first][top - first:last - first + 1])
    if top > first:
        price += tables[runs][first][top - first - 1]
    if top < last:
        price += tables[runs - 1][top + 1][last - top - 1]
    return price


def tops_of(runs, first, last):
    """The list of the tops that a stretch can have, if at most so many runs stand."""
    return list(range(last if runs == 1 else first, last + 1))


def least_tops(task, tables, runs, first, last):
    """The list of the tops with which a stretch costs least."""
    best = tables[runs][first][last - first]
    tops = tops_of(runs, first, last)
    return [top for top in tops if cost_by_top(task, tables, runs, first, last, top) == best]


def count_ways(task, tables, known, runs, first, last):
    """How many ways there are through a stretch that cost least; those found are kept in known."""
    if first > last:
        return 1
    stretch = (runs, first, last)
    if stretch not in known:
        many = 0
        for top in least_tops(task, tables, runs, first, last):
            ahead = count_ways(task, tables, known, runs, first, top - 1)
            many += ahead * count_ways(task, tables, known, runs - 1, top + 1, last)
        known[stretch] = many
    return known[stretch]


def least_ways(task, tables, known, runs, first, last):
    """The list of the ways through a stretch that cost least, each the tuple of the begins that are written."""
    if first > last:
        return [()]
    stretch = (runs, first, last)
    if stretch not in known:
        ways = []
        for top in least_tops(task, tables, runs, first, last):
            behind = least_ways(task, tables, known, runs - 1, top + 1, last)
            for ahead in least_ways(task, tables, known, runs, first, top - 1):
                ways.extend([ahead + (first,) + later for later in behind])
        known[stretch] = ways
    return known[stretch]


def count_least(task, most):
    """How many plans have the least cost."""
    if not is_most(most):
        raise NoNumber()
    tables = stand_tables(task.writes, task.looks, most)
    return count_ways(task, tables, {}, len(tables) - 1, 0, len(task.writes) - 1)


def all_least(task, most):
    """The ascending list of the plans of the least cost."""
    if count_least(task, most) > MOST_LEAST:
        raise TooMany(MOST_LEAST)
    tables = stand_tables(task.writes, task.looks, most)
    return sorted(least_ways(task, tables, {}, len(tables) - 1, 0, len(task.writes) - 1))


def alike_least(hours, write, look, most):
    """The least cost for so many hours that are alike."""
    if not is_between(1, MOST_ALIKE_HOURS, hours) or not is_between(1, MOST_ALIKE_PRICE, write):
        raise NoNumber()
    if not is_between(0, MOST_ALIKE_PRICE, look) or not is_most(most):
        raise NoNumber()
    # For each number of right ones, the number with fewest left ones that is not yet taken.
    waiting = []
    for right in range(most):
        heappush(waiting, (write + look * (right + 1), right, 0))
    total = 0
    missing = hours
    while missing > 0:
        price, right, left = heappop(waiting)
        many = min(missing, comb(left + right, left))
        total += price * many
        missing -= many
        heappush(waiting, (price + write, right, left + 1))
    return total
