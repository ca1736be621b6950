import math
import random
import unittest

from joinshelf.costs import cost, wide_cost
from joinshelf.errors import NoNumber, TooMany
from joinshelf.leasts import all_least, alike_least, count_least, least, least_plan
from joinshelf.plans import count_plans, is_plan, widest
from joinshelf.tasks import Task, task_of_sizes, task_part
from tests.test_wides import all_wides
from tests.things import (BIG, T, Checks, cost_by_words, even_task, fitting_plans, is_int, laid_out, nested,
                          random_task, varied_tasks)


def is_from_1_to_30(thing):
    return is_int(thing) and 1 <= thing <= 30


def least_plans_by_words(task, most):
    """The least cost and the ascending list of the plans that have it."""
    costs = [(cost_by_words(task, plan, stands), plan) for plan, stands in fitting_plans(len(task.writes), most)]
    best = min(costs)[0]
    return best, sorted(plan for price, plan in costs if price == best)


def task_with_many(barred):
    """A task of 12 hours whose least plans of at most 2 runs are all those that do not end with one of these begins.

    With the second run beginning with s there are as many ways as those by
    which the run that begins with 0 is written at s - 1.
    """
    return Task(laid_out(12, lambda a, m: 15 if m == 11 and a in barred else 10), laid_out(12, lambda a, t: 0))


def alike_by_words(hours, write, look, most):
    numbers = [(write * (i + 1) + look * (j + 1), math.comb(i + j, i)) for i in range(hours) for j in range(most)]
    whole = []
    for number, many in sorted(numbers):
        whole += [number] * min(many, hours - len(whole))
    return sum(whole)


def alike_task(hours, write, look):
    return Task(laid_out(hours, lambda a, m: write * (m - a + 1)), laid_out(hours, lambda a, t: look))


class LeastTest(Checks):

    def test_example_e07(self):
        self.assertEqual(least(T, 3), 9)
        self.assertEqual(least_plan(T, 3), (0, 0, 2))
        self.assertEqual(least(T, 1), 11)
        self.assertEqual(alike_least(5, 1, 0, 2), 8)

    def test_against_all_plans(self):
        for task in varied_tasks(40, 6, 6):
            hours = len(task.writes)
            for most in [*range(1, hours + 2), 30]:
                best, plans = least_plans_by_words(task, most)
                self.assertEqual(least(task, most), best)
                self.assertEqual(least_plan(task, most), plans[0])
                self.assertEqual(count_least(task, most), len(plans))
                self.assertEqual(all_least(task, most), plans)

    def test_against_all_plans_of_eight_hours(self):
        chance = random.Random(41)
        for _ in range(8):
            task = random_task(chance, 8, chance.choice([2, 4]), chance.choice([1, 2]))
            for most in (2, 3, 4, 8):
                best, plans = least_plans_by_words(task, most)
                self.assertEqual((least(task, most), least_plan(task, most)), (best, plans[0]))
                self.assertEqual(count_least(task, most), len(plans))
                self.assertEqual(all_least(task, most), plans)

    def test_wide_plans_cost_no_less(self):
        for task in varied_tasks(42, 2, 5):
            for wide in all_wides(len(task.writes)):
                self.assertLessEqual(least(task, max(map(len, wide))), wide_cost(task, wide))

    def test_third_fact(self):
        chance = random.Random(43)
        tasks = [random_task(chance, hours, 50, 9) for hours in (1, 2, 7, 11)]
        for task in tasks:
            hours = len(task.writes)
            for most in (1, 2, 3, 12):
                parted = []
                for top in range(hours - 1 if most == 1 else 0, hours):
                    price = task.writes[0][top] + sum(task.looks[0][top:])
                    if top > 0:
                        price += least(task_part(task, 0, top - 1), most)
                    if top < hours - 1:
                        price += least(task_part(task, top + 1, hours - 1), most - 1)
                    parted.append(price)
                self.assertEqual(least(task, most), min(parted))

    def test_thirty_hours(self):
        chance = random.Random(44)
        for write, look in [(10 ** 9, 10 ** 8), (10 ** 9, 10 ** 9), (60, 3), (0, 10 ** 9), (10 ** 9, 0)]:
            task = random_task(chance, 30, write, look)
            ahead = None
            for most in (1, 2, 5, 29, 30):
                best, plan = least(task, most), least_plan(task, most)
                self.assertTrue(is_plan(30, plan))
                self.assertLessEqual(widest(plan), most)
                self.assertEqual(cost(task, plan), best)
                self.assertTrue(ahead is None or best <= ahead)
                ahead = best
                if count_least(task, most) <= 2000:
                    plans = all_least(task, most)
                    self.assertEqual(len(plans), count_least(task, most))
                    self.assertEqual(plans[0], plan)
                    self.assertEqual(plans, sorted(set(plans)))
                    self.assertTrue(all(cost(task, other) == best and widest(other) <= most for other in plans))
            self.assertEqual(least(task, 1), sum(task.writes[0]) + sum(task.looks[0]))
            self.assertEqual(all_least(task, 1), [(0,) * 30])

    def test_one_hour(self):
        task = Task(((7,),), ((5,),))
        for most in (1, 2, 30):
            self.assertEqual(least(task, most), 12)
            self.assertEqual(least_plan(task, most), (0,))
            self.assertEqual(count_least(task, most), 1)
            self.assertEqual(all_least(task, most), [(0,)])

    def test_all_plans_are_least(self):
        for hours in (1, 5, 9, 30):
            for task in (even_task(hours, 0, 0), even_task(hours, 10 ** 9, 0)):
                for most in (1, 2, 3, 30):
                    self.assertEqual(count_least(task, most), count_plans(hours, most))
                    self.assertEqual(least_plan(task, most), (0,) * hours)
                    self.assertEqual(least(task, most), hours * task.writes[0][0])

    def test_looks_alone(self):
        task = even_task(30, 0, 10 ** 9)
        for most in (1, 3, 30):
            self.assertEqual(least(task, most), 30 * 10 ** 9)
            self.assertEqual(all_least(task, most), [(0,) * 30])

    def test_two_thousand_and_more(self):
        self.assertEqual(len(all_least(even_task(9, 1, 0), 3)), 1597)
        self.assert_error(TooMany, (2000,), all_least, even_task(12, 1, 0), 2)
        self.assert_error(TooMany, (2000,), all_least, even_task(30, 0, 0), 30)
        just = task_with_many((7, 5, 4, 3, 2, 1))
        self.assertEqual(count_least(just, 2), 2000)
        plans = all_least(just, 2)
        self.assertEqual((len(plans), plans[0]), (2000, least_plan(just, 2)))
        self.assertEqual(plans, least_plans_by_words(just, 2)[1])
        more = task_with_many((7, 5, 4, 3, 2))
        self.assertEqual(count_least(more, 2), 2001)
        self.assert_error(TooMany, (2000,), all_least, more, 2)

    def test_each_list_is_new(self):
        all_least(T, 3).append("x")
        self.assertEqual(all_least(T, 3), [(0, 0, 2)])

    def test_wrong_numbers(self):
        many = even_task(30, 0, 0)
        for function in (least, least_plan, count_least, all_least):
            self.assert_refused(NoNumber, (), is_from_1_to_30, lambda thing: function(T, thing))
            for most in (0, 31, -1, True, False, None, "1", (1,), BIG, nested("list", 40, 0)):
                self.assert_error(NoNumber, (), function, T, most)
                self.assert_error(NoNumber, (), function, many, most)


class AlikeTest(Checks):

    def test_against_the_words(self):
        chance = random.Random(45)
        for hours in [*range(1, 25), 60]:
            for _ in range(6):
                write, most = chance.choice([1, 2, 5, 7, 10 ** 6]), chance.choice([1, 2, 3, 30])
                price = chance.choice([0, 1, 3, 11, 10 ** 6])
                self.assertEqual(alike_least(hours, write, price, most), alike_by_words(hours, write, price, most))

    def test_against_least(self):
        for hours in [*range(1, 11), 30]:
            for write, price in [(1, 0), (1, 1), (3, 2), (2, 7), (1, 10 ** 6), (10 ** 6, 1), (5, 5)]:
                for most in (1, 2, 3, 7, 30):
                    self.assertEqual(alike_least(hours, write, price, most),
                                     least(alike_task(hours, write, price), most))
        self.assertEqual(alike_least(30, 4, 3, 3), least(task_of_sizes((4,) * 30, 3), 3))

    def test_one_and_a_hundred_thousand_hours(self):
        for most in (1, 30):
            self.assertEqual(alike_least(1, 1, 0, most), 1)
            self.assertEqual(alike_least(1, 10 ** 6, 10 ** 6, most), 2 * 10 ** 6)
        whole = 100000 * 100001 // 2
        self.assertEqual(alike_least(100000, 1, 0, 1), whole)
        self.assertEqual(alike_least(100000, 10 ** 6, 10 ** 6, 1), 10 ** 6 * (whole + 100000))
        # As many left ones as a look is dear are taken ahead of the first right one.
        self.assertEqual(alike_least(100000, 1, 10 ** 6, 30), whole + 100000 * 10 ** 6)
        # Where both cost 1, the number s + 2 stands 2 ** s times.
        taken = sum((s + 2) * 2 ** s for s in range(16))
        self.assertEqual(alike_least(100000, 1, 1, 30), taken + (100000 - 2 ** 16 + 1) * 18)
        # Of two runs, with looks for nothing: i + 1 stands i + 2 times.
        many = [i + 2 for i in range(445)]
        rest = 100000 - sum(many)
        self.assertTrue(0 < rest < 447)
        self.assertEqual(alike_least(100000, 3, 0, 2), 3 * (sum((i + 1) * n for i, n in enumerate(many)) + rest * 446))

    def test_wrong_numbers(self):
        def between(low, high):
            return lambda thing: is_int(thing) and low <= thing <= high

        self.assert_refused(NoNumber, (), between(1, 10 ** 5), lambda thing: alike_least(thing, 1, 1, 1))
        self.assert_refused(NoNumber, (), between(1, 10 ** 6), lambda thing: alike_least(3, thing, 1, 1))
        self.assert_refused(NoNumber, (), between(0, 10 ** 6), lambda thing: alike_least(3, 1, thing, 1))
        self.assert_refused(NoNumber, (), is_from_1_to_30, lambda thing: alike_least(3, 1, 1, thing))
        for told in [(0, 1, 1, 1), (100001, 1, 1, 1), (1, 0, 1, 1), (1, 10 ** 6 + 1, 1, 1), (1, 1, -1, 1),
                     (1, 1, 10 ** 6 + 1, 1), (1, 1, 1, 0), (1, 1, 1, 31), (True, 1, 1, 1), (1, True, 1, 1),
                     (1, 1, False, 1), (1, 1, 1, True), (None, None, None, None)]:
            self.assert_error(NoNumber, (), alike_least, *told)


if __name__ == "__main__":
    unittest.main()
