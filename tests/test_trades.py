import random
import unittest
from fractions import Fraction
from math import gcd

from joinshelf.costs import greatest_written, looked_at, written
from joinshelf.errors import NoNumber, NoPrice, TooMany
from joinshelf.leasts import least, least_plan
from joinshelf.plans import is_plan, widest
from joinshelf.rules import least_under
from joinshelf.tasks import Task, task_of_sizes, task_part
from joinshelf.trades import at_price, corners, front, steadiest, trade
from tests.test_leasts import is_from_1_to_30
from tests.things import (BIG, T, Checks, cost_by_words, even_task, fitting_plans, is_int, laid_out, looked_by_words,
                          nested, odd_things, random_task, varied_tasks, written_by_words)


def points_by_words(task, most):
    return sorted({(sum(written_by_words(task, plan)), sum(looked_by_words(task, stands)))
                   for plan, stands in fitting_plans(len(task.writes), most)})


def trade_by_words(task, most):
    told = [(max(written_by_words(task, plan)), cost_by_words(task, plan, stands))
            for plan, stands in fitting_plans(len(task.writes), most)]
    found = []
    for limit in sorted({greatest for greatest, _ in told}):
        price = min(price for greatest, price in told if greatest <= limit)
        if not found or price < found[-1][1]:
            found.append((limit, price))
    return found


def front_by_words(points):
    return [one for one in points
            if not any(other != one and other[0] <= one[0] and other[1] <= one[1] for other in points)]


def at_price_by_words(points, price):
    return min(points, key=lambda point: (point[0] + point[1] * price, point))


def is_corner_by_words(points, one):
    """Whether at some price above 0 the point is worth less than all others."""
    low, high = Fraction(0), None
    for other in points:
        wrote, looked = one[0] - other[0], one[1] - other[1]
        if other != one:
            if looked == 0 and wrote > 0:
                return False
            if looked > 0:
                bound = Fraction(-wrote, looked)
                high = bound if high is None else min(high, bound)
            if looked < 0:
                low = max(low, Fraction(wrote, -looked))
    return high is None or low < high


def ratio_by_words(task, most, plan, stands):
    spent, worst = 0, Fraction(0)
    for hour, (wrote, looked) in enumerate(zip(written_by_words(task, plan), looked_by_words(task, stands))):
        spent += wrote + looked
        worst = max(worst, Fraction(spent, max(1, least(task_part(task, 0, hour), most))))
    return worst


def prices(chance, many):
    fixed = [(0, 1), (1, 1), (1, 2), (2, 1), (1, 10 ** 59), (10 ** 59, 1), (BIG, BIG - 1)]
    found = [Fraction(chance.randint(0, 50), chance.randint(1, 50)) for _ in range(many)]
    return fixed + [(price.numerator, price.denominator) for price in found]


def straight_task(last):
    """A task of 12 hours whose points of plans of at most 2 runs lie on one straight way.

    An hour behind the first one writes its weight if it joins all, otherwise its
    looks cost as much: so there is a point for each sum of some of the weights.
    """
    weights = [0] + [2 ** at for at in range(10)] + [last]
    return Task(laid_out(12, lambda a, m: 0 if a else weights[m]), laid_out(12, lambda a, t: weights[t] if a else 0))


class TradeTest(Checks):

    def test_example_e09(self):
        self.assertEqual(trade(T, 3), [(2, 10), (3, 9)])
        self.assertEqual(front(T, 3), [(4, 6), (5, 4), (8, 3)])
        self.assertEqual(at_price(T, 3, (1, 1)), (5, 4))

    def test_against_all_plans(self):
        for task in varied_tasks(80, 8, 6):
            for most in (1, 2, 3, 30):
                self.assertEqual(trade(task, most), trade_by_words(task, most))

    def test_last_one_is_least(self):
        for task in varied_tasks(91, 3, 6):
            for most in (1, 3):
                limit, price = trade(task, most)[-1]
                self.assertEqual(price, least(task, most))
                self.assertLessEqual(limit, greatest_written(task, least_plan(task, most)))

    def test_many_limits(self):
        chance = random.Random(81)
        longest = 0
        for _ in range(10):
            # What is written together is dear, and so are looks: each limit has its own cost.
            sizes = [chance.randint(1, 9) for _ in range(7)]
            task = task_of_sizes(tuple(sizes), 9)
            for most in (2, 7):
                self.assertEqual(trade(task, most), trade_by_words(task, most))
                longest = max(longest, len(trade(task, most)))
        self.assertGreater(longest, 5)

    def test_plans_of_one_cost_and_several_limits(self):
        chance = random.Random(92)
        for _ in range(150):
            task = random_task(chance, 6, 6, 1)
            for most in (2, 6):
                self.assertEqual(trade(task, most), trade_by_words(task, most))

    def test_one_and_thirty_hours(self):
        for most in (1, 2, 30):
            self.assertEqual(trade(Task(((7,),), ((5,),)), most), [(7, 12)])
            self.assertEqual(trade(Task(((0,),), ((0,),)), most), [(0, 0)])
            self.assertEqual(trade(even_task(30, 0, 0), most), [(0, 0)])
            self.assertEqual(trade(even_task(30, 10 ** 9, 0), most), [(10 ** 9, 30 * 10 ** 9)])
        chance = random.Random(82)
        for most in (1, 2, 5, 30):
            task = task_of_sizes(tuple(chance.randint(1, 99) for _ in range(30)), 20)
            found = trade(task, most)
            self.assertEqual(found[-1][1], least(task, most))
            self.assertEqual(found, sorted(found))
            self.assertEqual([price for _, price in found], sorted({price for _, price in found}, reverse=True))
            ahead = None
            for limit, price in found:
                self.assertEqual(least_under(task, most, [("limit", limit)])[0], price)
                before = least_under(task, most, [("limit", limit - 1)])
                self.assertEqual(None if before is None else before[0], ahead)
                ahead = price

    def test_each_list_is_new(self):
        for function, known in [(trade, [(2, 10), (3, 9)]), (front, [(4, 6), (5, 4), (8, 3)]),
                                (corners, [(4, 6), (5, 4), (8, 3)])]:
            function(T, 3).append("x")
            self.assertEqual(function(T, 3), known)


class PointsTest(Checks):

    def test_front_against_all_plans(self):
        for task in varied_tasks(83, 8, 6):
            for most in (1, 2, 3, 30):
                self.assertEqual(front(task, most), front_by_words(points_by_words(task, most)))

    def test_front_of_eight_hours(self):
        chance = random.Random(84)
        for _ in range(6):
            task = random_task(chance, 8, 20, 20)
            for most in (2, 4, 8):
                self.assertEqual(front(task, most), front_by_words(points_by_words(task, most)))

    def test_at_price_against_all_plans(self):
        chance = random.Random(85)
        for task in varied_tasks(86, 6, 5):
            for most in (1, 2, 3, 30):
                points = points_by_words(task, most)
                known = list(prices(chance, 8))
                # Prices at which two points are worth the same.
                for one, other in zip(points, points[1:]):
                    if one[1] > other[1]:
                        price = Fraction(other[0] - one[0], one[1] - other[1])
                        known.append((price.numerator, price.denominator))
                for price in known:
                    self.assertEqual(at_price(task, most, price), at_price_by_words(points, Fraction(*price)))

    def test_corners_against_all_plans(self):
        for task in varied_tasks(87, 8, 6):
            for most in (1, 2, 3, 30):
                points = points_by_words(task, most)
                self.assertEqual(corners(task, most), [one for one in points if is_corner_by_words(points, one)])

    def test_points_on_a_straight_way(self):
        # At the price 1 both points between the corners are worth as much as these.
        task = Task(((0, 1, 2), (0, 0), (0,)), ((0, 0, 0), (1, 2), (2,)))
        self.assertEqual(front(task, 2), [(0, 3), (1, 2), (2, 1), (3, 0)])
        self.assertEqual(corners(task, 2), [(0, 3), (3, 0)])
        self.assertEqual(at_price(task, 2, (1, 1)), (0, 3))
        self.assertEqual(at_price(task, 2, (2, 1)), (3, 0))
        self.assertEqual(at_price(task, 2, (1, 2)), (0, 3))

    def test_twelve_and_more_hours(self):
        for hours in (12, 13, 30):
            for most in (1, 2, 30):
                task = even_task(hours, 2, 1)
                self.assertEqual(corners(task, most), [(2 * hours, hours)])
                self.assertEqual(at_price(task, most, (0, 1)), (2 * hours, hours))
                if hours == 12:
                    self.assertEqual(front(task, most), [(24, 12)])
                else:
                    self.assert_error(TooMany, (12,), front, task, most)

    def test_two_thousand_and_more_points(self):
        just = straight_task(976)
        found = front(just, 2)
        self.assertEqual(found, [(wrote, 1999 - wrote) for wrote in range(2000)])
        self.assertEqual(corners(just, 2), [(0, 1999), (1999, 0)])
        self.assert_error(TooMany, (2000,), front, straight_task(977), 2)
        self.assert_error(TooMany, (2000,), front, straight_task(1024), 2)

    def test_dear_ones_of_thirty_hours(self):
        top = even_task(30, 10 ** 9, 10 ** 9)
        for most in (1, 30):
            self.assertEqual(at_price(top, most, (BIG, 1)), (30 * 10 ** 9, 30 * 10 ** 9))
            self.assertEqual(corners(top, most), [(30 * 10 ** 9, 30 * 10 ** 9)])
        # All runs stand at the last hour, and all looks together are as dear as they can be.
        alone = Task(laid_out(30, lambda a, m: 0 if a == m else 10 ** 9), top.looks)
        self.assertEqual(corners(alone, 30)[0], (0, 465 * 10 ** 9))
        self.assertEqual(at_price(alone, 30, (0, 1)), (0, 465 * 10 ** 9))
        self.assertEqual(corners(alone, 30)[-1], (29 * 10 ** 9, 30 * 10 ** 9))
        self.assertEqual(at_price(alone, 30, (BIG, 1)), (29 * 10 ** 9, 30 * 10 ** 9))

    def test_corners_of_thirty_hours(self):
        chance = random.Random(88)
        for most in (2, 30):
            task = random_task(chance, 30, 10 ** 9, 10 ** 9)
            found = corners(task, most)
            self.assertEqual(found[0], at_price(task, most, (0, 1)))
            self.assertEqual(found[-1], at_price(task, most, (10 ** 59, 1)))
            self.assertEqual(sum(at_price(task, most, (1, 1))), least(task, most))
            bends = [Fraction(high[0] - low[0], low[1] - high[1]) for low, high in zip(found, found[1:])]
            self.assertEqual(bends, sorted(set(bends)))
            for price, low, high in zip(bends, found, found[1:]):
                # At the bend the lesser one is told, in its midst to the next one the corner between.
                self.assertEqual(at_price(task, most, (price.numerator, price.denominator)), low)
                later = min([bend for bend in bends if bend > price], default=price + 1)
                midst = (price + later) / 2
                self.assertEqual(at_price(task, most, (midst.numerator, midst.denominator)), high)


class SteadiestTest(Checks):

    def test_against_all_plans(self):
        for task in varied_tasks(89, 6, 6):
            for most in (1, 2, 3, 30):
                told = [(ratio_by_words(task, most, plan, stands), plan)
                        for plan, stands in fitting_plans(len(task.writes), most)]
                ratio, plan = min(told)
                self.assertEqual(steadiest(task, most), ((ratio.numerator, ratio.denominator), plan))

    def test_known_ones(self):
        self.assertEqual(steadiest(T, 3), ((1, 1), (0, 0, 2)))
        self.assertEqual(steadiest(task_of_sizes((5,), 1), 1), ((1, 1), (0,)))
        # Joined at once costs 4, then 24 in all; standing alone costs more now, and nothing more later.
        for alone, known in [(8, ((2, 1), (0, 1, 1))), (9, ((9, 4), (0, 1, 1))), (10, ((12, 5), (0, 0, 0)))]:
            task = Task(((0, 4, 20), (alone, 0), (20,)), laid_out(3, lambda a, t: 0))
            self.assertEqual(least_plan(task, 2), (0, 1, 1))
            self.assertEqual(steadiest(task, 2), known)
            self.assertEqual(steadiest(task, 1), ((1, 1), (0, 0, 0)))

    def test_without_prices(self):
        for hours in (1, 3, 10):
            for most in (1, 2, 30):
                self.assertEqual(steadiest(even_task(hours, 0, 0), most), ((0, 1), (0,) * hours))
        # The first hour is for nothing, and what is least then counts as 1.
        free = Task(((0, 0, 3), (0, 5), (5,)), ((0, 0, 0), (0, 0), (0,)))
        self.assertEqual(steadiest(free, 1), ((1, 1), (0, 0, 0)))
        # Two hours can cost nothing, but then the third one costs more.
        for later, known in [(100, ((7, 1), (0, 1, 1))), (48, ((48, 7), (0, 0, 0)))]:
            late = Task(((0, 0, later), (7, 0), (later,)), laid_out(3, lambda a, t: 0))
            self.assertEqual(steadiest(late, 2), known)

    def test_ten_and_more_hours(self):
        chance = random.Random(90)
        for most in (1, 3, 30):
            task = random_task(chance, 10, 20, 5)
            (top, bottom), plan = steadiest(task, most)
            self.assertEqual(gcd(top, bottom), 1)
            self.assertTrue(is_plan(10, plan))
            self.assertLessEqual(widest(plan), most)
            spent = [wrote + looked for wrote, looked in zip(written(task, plan), looked_at(task, plan))]
            bests = [max(1, least(task_part(task, 0, hour), most)) for hour in range(10)]
            ratios = [Fraction(sum(spent[:hour + 1]), bests[hour]) for hour in range(10)]
            self.assertEqual(max(ratios), Fraction(top, bottom))
        for hours in (11, 12, 30):
            for most in (1, 2, 30):
                self.assert_error(TooMany, (10,), steadiest, even_task(hours, 0, 0), most)


class WrongTest(Checks):

    def test_wrong_numbers(self):
        many = even_task(30, 0, 0)
        for function in (trade, front, corners, steadiest, lambda task, most: at_price(task, most, (1, 1))):
            self.assert_refused(NoNumber, (), is_from_1_to_30, lambda thing: function(T, thing))
            for most in (0, 31, -1, True, None, "1", BIG, nested("list", 40, 0)):
                # All of NoNumber come ahead of all of TooMany.
                self.assert_error(NoNumber, (), function, many, most)

    def test_wrong_prices(self):
        def is_price(thing):
            if type(thing) is not tuple or len(thing) != 2 or not is_int(thing[0]) or not is_int(thing[1]):
                return False
            return thing[0] >= 0 and thing[1] >= 1 and gcd(*thing) == 1

        self.assert_refused(NoPrice, (), is_price, lambda thing: at_price(T, 3, thing))
        self.assert_refused(NoPrice, (), lambda thing: is_price((thing, 1)), lambda thing: at_price(T, 3, (thing, 1)))
        self.assert_refused(NoPrice, (), lambda thing: is_price((1, thing)), lambda thing: at_price(T, 3, (1, thing)))
        for price in [(2, 2), (0, 2), (4, 6), (1, 0), (0, 0), (1, -1), (-1, 1), (-1, -1), [1, 1], (1,), (1, 1, 1),
                      (True, 1),
                      (1, True), (0, False), (BIG, BIG), (3 * 10 ** 58, 3), 1, "11", None, ((1, 1),),
                      nested("pair", 40, 1)]:
            self.assert_error(NoPrice, (), at_price, T, 3, price)
            self.assert_error(NoNumber, (), at_price, T, 31, price)
        for thing in odd_things():
            if not is_from_1_to_30(thing):
                self.assert_error(NoNumber, (), at_price, T, thing, thing)
        for price, known in [((0, 1), (4, 6)), ((1, 2), (4, 6)), ((2, 3), (5, 4)), ((3, 1), (5, 4)), ((4, 1), (8, 3))]:
            self.assertEqual(at_price(T, 3, price), known)


if __name__ == "__main__":
    unittest.main()
