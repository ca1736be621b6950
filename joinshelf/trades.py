"""Trades: writing against looking, the greatest hour, and what is good however long it lasts."""

from math import gcd

from joinshelf.checks import is_integer, is_pair
from joinshelf.costs import greatest_written, look_price
from joinshelf.errors import NoNumber, NoPrice, TooMany
from joinshelf.leasts import is_most, stand_tables
from joinshelf.rules import least_kept

MOST_FRONT_HOURS = 12
MOST_POINTS = 2000
MOST_STEADY_HOURS = 10

# What all hours of a plan write, or their looks cost, is below 2 ** 64.
POINT_BITS = 64


def trade(task, most):
    """The list of pairs of a limit of an hour's writing and of the least cost under it, wherever this falls."""
    if not is_most(most):
        raise NoNumber()
    found = []
    limit = max([max(row) for row in task.writes])
    best = least_kept(task, most, [("limit", limit)])
    while best is not None:
        price, plan = best
        if found and found[-1][1] == price:
            found.pop()
        limit = greatest_written(task, plan)
        found.append((limit, price))
        best = least_kept(task, most, [("limit", limit - 1)])
    return found[::-1]


def next_begins(begins, hour, most):
    """The ascending list of what can stand behind the hour if runs with these begins stand ahead of it."""
    longest = begins + (hour,)
    return [longest[:many] for many in range(1, min(len(longest), most) + 1)]


def lowest(points):
    """The ascending list of the points beside which no other one has both numbers no greater."""
    kept = []
    for point in sorted(points):
        if not kept or point[1] < kept[-1][1]:
            kept.append(point)
    return kept


def points_behind(task, most, points, hour):
    """The dict from what can stand behind the hour to the lowest points of the hours so far.

    points is that of the hour ahead. Plans that lead to the same shelf go on
    alike, so of these no more than the lowest points are needed.
    """
    found = {}
    for ahead in points:
        for begins in next_begins(ahead, hour, most):
            wrote = task.writes[begins[-1]][hour - begins[-1]]
            looked = look_price(task.looks, begins, hour)
            found.setdefault(begins, []).extend([(write + wrote, look + looked) for write, look in points[ahead]])
    return {begins: lowest(found[begins]) for begins in found}


def front(task, most):
    """The ascending list of the points of plans beside which no other point has both numbers no greater."""
    if not is_most(most):
        raise NoNumber()
    hours = len(task.writes)
    if hours > MOST_FRONT_HOURS:
        raise TooMany(MOST_FRONT_HOURS)
    points = {(): [(0, 0)]}
    for hour in range(hours):
        points = points_behind(task, most, points, hour)
    found = lowest([point for begins in points for point in points[begins]])
    if len(found) > MOST_POINTS:
        raise TooMany(MOST_POINTS)
    return found


def is_price(thing):
    """Whether a thing is a fraction from 0 on."""
    if not is_pair(thing) or not is_integer(thing[0]) or not is_integer(thing[1]):
        return False
    return thing[0] >= 0 and thing[1] >= 1 and gcd(thing[0], thing[1]) == 1


def value_of(point, top, bottom):
    """What is least at the price top / bottom: the first number, and the second one times the price, times bottom."""
    return point[0] * bottom + point[1] * top


def weighed(point, top, bottom):
    """The value of a point at a price, behind which, as lower figures of the same number, the point itself stands."""
    return (value_of(point, top, bottom) << (2 * POINT_BITS)) + (point[0] << POINT_BITS) + point[1]


def least_point(task, most, top, bottom):
    """The least of the points of the least value at the price top / bottom."""
    writes = [[weighed((price, 0), top, bottom) for price in row] for row in task.writes]
    looks = [[weighed((0, price), top, bottom) for price in row] for row in task.looks]
    found = stand_tables(writes, looks, most)[-1][0][-1]
    figures = (1 << POINT_BITS) - 1
    return ((found >> POINT_BITS) & figures, found & figures)


def at_price(task, most, price):
    """The least of the points that are least at the price."""
    if not is_most(most):
        raise NoNumber()
    if not is_price(price):
        raise NoPrice()
    return least_point(task, most, price[0], price[1])


def corners(task, most):
    """The ascending list of the points each of which is, at some price above 0, the only one that is least."""
    if not is_most(most):
        raise NoNumber()
    found = [least_point(task, most, 0, 1)]
    # A price of 1 / 0: looks count alone, and writing only among those that are alike.
    waiting = [least_point(task, most, 1, 0)]
    while waiting:
        low, high = found[-1], waiting[-1]
        # At this price both are worth the same, so another corner between them is worth less.
        top, bottom = high[0] - low[0], low[1] - high[1]
        between = least_point(task, most, top, bottom)
        if value_of(between, top, bottom) < value_of(low, top, bottom):
            waiting.append(between)
        else:
            waiting.pop()
            if high != low:
                found.append(high)
    return found


def is_less(one, other):
    """Whether a ratio, a pair of a number and of what it is divided by, is less than another one."""
    return one[0] * other[1] < other[0] * one[1]


def lowest_terms(ratio):
    """The fraction that a ratio is."""
    parts = gcd(ratio[0], ratio[1])
    return (ratio[0] // parts, ratio[1] // parts)


def plans_with_ratios(task, most):
    """The list of the pairs of a plan's greatest ratio of its cost so far to the least one, and of the plan, ascending.

    The ratios are not in lowest terms, and a least cost of 0 counts as 1.
    """
    bests = stand_tables(task.writes, task.looks, most)[-1][0]
    begun = [((0, 1), (), (), 0)]
    for hour, best in enumerate(bests):
        longer = []
        for ratio, plan, ahead, spent in begun:
            for begins in next_begins(ahead, hour, most):
                wrote = task.writes[begins[-1]][hour - begins[-1]]
                paid = spent + wrote + look_price(task.looks, begins, hour)
                now = (paid, max(1, best))
                longer.append((now if is_less(ratio, now) else ratio, plan + (begins[-1],), begins, paid))
        begun = longer
    return [(ratio, plan) for ratio, plan, _, _ in begun]


def steadiest(task, most):
    """The pair of the least ratio that a plan keeps at the end of each hour, and of the least such plan."""
    if not is_most(most):
        raise NoNumber()
    if len(task.writes) > MOST_STEADY_HOURS:
        raise TooMany(MOST_STEADY_HOURS)
    ways = plans_with_ratios(task, most)
    ratio, plan = ways[0]
    for another, other in ways[1:]:
        if is_less(another, ratio):
            ratio, plan = another, other
    return (lowest_terms(ratio), plan)
