"""Keepers, who see no hour ahead: the plans to which they lead, and the worst row for one."""

from joinshelf.burdens import check_sizes, least_writing, writing
from joinshelf.checks import is_between
from joinshelf.errors import NoAnswer, NoNumber, TooMany
from joinshelf.leasts import is_most
from joinshelf.plans import shelf_of
from joinshelf.trades import is_less, lowest_terms

MOST_ROW_HOURS = 8
MOST_ROW_SIZE = 6
MOST_ROWS = 2000


def is_answer(begins, most, thing):
    """Whether a thing tells how many of the runs with these begins stay, and leaves at most so many with the batch."""
    return is_between(0, min(len(begins), most - 1), thing)


def stayed(begins, hour, stay):
    """The begins of the runs that stand behind the hour if so many stay of those ahead of it."""
    return (begins + [hour])[:stay + 1]


def led(sizes, most, keeper):
    """The plan to which a keeper leads."""
    check_sizes(sizes, most)
    plan = []
    begins = []
    for hour in range(len(sizes)):
        stay = keeper(sizes[:hour + 1], shelf_of(begins, hour - 1))
        if not is_answer(begins, most, stay):
            raise NoAnswer(hour)
        begins = stayed(begins, hour, stay)
        plan.append(begins[-1])
    return tuple(plan)


def count_rows(hours, size):
    """The list of how many rows there are of 1 size, of 2 sizes, and so on, each from 1 to size."""
    counts = [size]
    for _ in range(hours - 1):
        counts.append(counts[-1] * size)
    return counts


def rows_to(hours, size):
    """The list of the rows of 1 to so many sizes, each from 1 to size, fewest first."""
    rows = []
    longest = [()]
    for _ in range(hours):
        longest = [row + (told,) for row in longest for told in range(1, size + 1)]
        rows.extend(longest)
    return rows


def worst(most, keeper, hours, size):
    """The pair of the greatest ratio of what a keeper costs to the least cost, and of the first row that has it."""
    if not is_most(most) or not is_between(1, MOST_ROW_HOURS, hours) or not is_between(1, MOST_ROW_SIZE, size):
        raise NoNumber()
    if sum(count_rows(hours, size)) > MOST_ROWS:
        raise TooMany(MOST_ROWS)
    greatest = (0, 1)
    found = ()
    for row in rows_to(hours, size):
        ratio = (writing(row, led(row, most, keeper)), least_writing(row, most))
        if is_less(greatest, ratio):
            greatest = ratio
            found = row
    return (lowest_terms(greatest), found)
