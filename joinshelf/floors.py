"""Floors: price tables below which nothing is cheaper."""

from joinshelf.checks import is_integer, is_tuple_of
from joinshelf.errors import NoFloor, NoNumber
from joinshelf.leasts import cost_by_top, is_most, least_row, tops_of, with_looks


def is_integers(many, thing):
    """Whether a thing is a tuple of so many integers."""
    return is_tuple_of(many, many, thing) and all([is_integer(number) for number in thing])


def is_stretch_table(hours, thing):
    """Whether a thing has an integer for each stretch of so many hours."""
    if not is_tuple_of(hours, hours, thing):
        return False
    return all([is_integers(hours - first, row) for first, row in enumerate(thing)])


def is_low_enough(task, tables, runs, first, last):
    """Whether the entry for a stretch is at most what the stretch costs by each top, as the tables tell it."""
    entry = tables[runs][first][last - first]
    tops = tops_of(runs, first, last)
    return all([entry <= cost_by_top(task, tables, runs, first, last, top) for top in tops])


def table_with_looks(task, table):
    """A table of a floor, with what the looks of the run of each stretch cost."""
    return [with_looks(row, look_row) for row, look_row in zip(table, task.looks)]


def is_floor(task, most, thing):
    """Whether a thing is a floor for the task and most."""
    if not is_most(most):
        raise NoNumber()
    hours = len(task.writes)
    if not is_tuple_of(most, most, thing) or not all([is_stretch_table(hours, table) for table in thing]):
        return False
    # Looks of a stretch's own run cost the same by each top.
    tables = [[]] + [table_with_looks(task, table) for table in thing]
    for runs in range(1, most + 1):
        for first in range(hours):
            for last in range(first, hours):
                if not is_low_enough(task, tables, runs, first, last):
                    return False
    return True


def bound_of(task, most, thing):
    """The bound of a floor: no plan costs less."""
    if not is_floor(task, most, thing):
        raise NoFloor()
    return thing[-1][0][-1] + sum(task.looks[0])


def floor(task, most):
    """A floor of the greatest bound."""
    if not is_most(most):
        raise NoNumber()
    found = []
    above = []
    for _ in range(most):
        table = [least_row(row, above[first + 1:]) for first, row in enumerate(task.writes)]
        found.append(tuple([tuple(row) for row in table]))
        above = table_with_looks(task, table)
    return tuple(found)
