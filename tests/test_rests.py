import random
import unittest

from joinshelf.costs import cost, looked_at, written
from joinshelf.errors import NoHour, NoNumber, NoPlan
from joinshelf.leasts import all_least, least, least_plan
from joinshelf.plans import is_plan, shelves, widest
from joinshelf.rests import choices_at, dearer, rest
from joinshelf.rules import least_under
from joinshelf.tasks import Task, task_of_sizes
from tests.test_leasts import is_from_1_to_30, least_plans_by_words
from tests.test_plans import plan_by_words
from tests.things import (BIG, T, Checks, all_plans_by_words, cost_by_words, even_task, fitting_plans, is_int,
                          looked_by_words, nested, odd_things, random_task, varied_tasks, written_by_words)


def rest_by_words(task, most, begun):
    hours, many = len(task.writes), len(begun)
    costs = []
    for plan, stands in all_plans_by_words(hours):
        if plan[:many] == begun and max(map(len, stands[many:])) <= most:
            spent = written_by_words(task, plan)[many:] + looked_by_words(task, stands)[many:]
            costs.append((sum(spent), plan))
    return min(costs)


def dearer_by_words(task, most, hour, begin):
    costs = [(cost_by_words(task, plan, stands), plan) for plan, stands in fitting_plans(len(task.writes), most)]
    fit = [price for price, plan in costs if plan[hour] == begin]
    return min(fit) - min(costs)[0] if fit else None


class RestTest(Checks):

    def test_example_e08(self):
        self.assertEqual(rest(T, 3, (0, 1)), (4, (0, 1, 2)))
        self.assertEqual(choices_at(T, 3, 1), (0,))
        self.assertEqual(dearer(T, 3, 1, 1), 1)

    def test_each_begun_plan_of_few_hours(self):
        for task in varied_tasks(70, 2, 5):
            hours = len(task.writes)
            for many in range(1, hours):
                for begun, _ in all_plans_by_words(many):
                    for most in (1, 2, 3, 30):
                        self.assertEqual(rest(task, most, begun), rest_by_words(task, most, begun))

    def test_some_begun_plans_of_seven_hours(self):
        chance = random.Random(71)
        for task in [random_task(chance, 7, *chance.choice([(3, 1), (9, 9), (50, 3), (2, 9)])) for _ in range(25)]:
            for many in (1, 3, 4, 6):
                begun = chance.choice(all_plans_by_words(many))[0]
                for most in (1, 2, 3, 7):
                    self.assertEqual(rest(task, most, begun), rest_by_words(task, most, begun))

    def test_wider_than_most(self):
        task = even_task(6, 1, 1)
        for most in (1, 2, 3, 4):
            price, plan = rest(task, most, (0, 1, 2, 3))
            self.assertEqual((price, plan), (4, (0, 1, 2, 3, 0, 0)))
        dear = Task((tuple(9 for _ in range(6)),) + task.writes[1:], even_task(6, 1, 0).looks)
        self.assertEqual(rest(dear, 1, (0, 1, 2, 3)), (18, (0, 1, 2, 3, 0, 0)))
        self.assertEqual(rest(dear, 2, (0, 1, 2, 3)), (2, (0, 1, 2, 3, 1, 1)))
        self.assertEqual(rest(dear, 3, (0, 1, 2, 3)), (2, (0, 1, 2, 3, 1, 1)))
        for most in (1, 2, 10, 28):
            price, plan = rest(even_task(30, 7, 0), most, tuple(range(29)))
            self.assertEqual((price, plan), (7, tuple(range(29)) + (0,)))
        last = Task(even_task(30, 7, 0).writes[:29] + ((0,),), even_task(30, 7, 0).looks)
        self.assertEqual(rest(last, 30, tuple(range(29))), (0, tuple(range(30))))
        self.assertEqual(rest(last, 29, tuple(range(29))), (7, tuple(range(29)) + (0,)))

    def test_one_hour_and_all_but_one(self):
        for task in varied_tasks(72, 4, 6):
            if len(task.writes) > 1:
                for most in (1, 2, 30):
                    price, plan = rest(task, most, (0,))
                    self.assertEqual(plan, least_plan(task, most))
                    self.assertEqual(price, least(task, most) - task.writes[0][0] - task.looks[0][0])
                    plan = least_plan(task, most)
                    spent = written(task, plan)[-1] + looked_at(task, plan)[-1]
                    self.assertEqual(rest(task, most, plan[:-1]), (spent, plan))

    def test_gone_on_with(self):
        chance = random.Random(73)
        for task in [random_task(chance, 30, *prices) for prices in ((10 ** 9, 10 ** 8), (4, 1), (60, 2))]:
            for most in (1, 2, 4, 30):
                plan = least_plan(task, most)
                spent = [wrote + looked for wrote, looked in zip(written(task, plan), looked_at(task, plan))]
                for many in range(1, 30):
                    self.assertEqual(rest(task, most, plan[:many]), (sum(spent[many:]), plan))

    def test_thirty_hours(self):
        chance = random.Random(74)
        for _ in range(12):
            task = random_task(chance, 30, 10 ** 9, 10 ** 8)
            most = chance.choice([1, 2, 5, 9, 30])
            begun = (0, 1, 2, 3, 3, 5, 6, chance.choice([2, 5, 6, 7]))
            price, plan = rest(task, most, begun)
            self.assertTrue(is_plan(30, plan))
            self.assertEqual(plan[:8], begun)
            self.assertTrue(all(len(shelf) <= most for shelf in shelves(plan)[8:]))
            spent = written(task, plan)[8:] + looked_at(task, plan)[8:]
            self.assertEqual(price, sum(spent))
            # It is no dearer than what is the least plan that begins so and is as narrow all the time.
            if widest(begun) <= most:
                told = [("begins", hour, begin) for hour, begin in enumerate(begun)]
                self.assertEqual(least_under(task, most, told), (cost(task, plan), plan))

    def test_wrong_ones(self):
        self.assert_refused(NoNumber, (), is_from_1_to_30, lambda thing: rest(T, thing, (0,)))
        self.assert_refused(NoPlan, (), lambda thing: plan_by_words(thing) and len(thing) < 3,
                            lambda thing: rest(T, 3, thing))
        for begun in [(), (0, 0, 0), (0, 1, 2), (0, 0, 0, 0), [0], [0, 1], (0, True), (False,), (1,), (0, 2), None,
                      nested("tuple", 40, 0)]:
            self.assert_error(NoPlan, (), rest, T, 3, begun)
            self.assert_error(NoNumber, (), rest, T, 31, begun)
        self.assert_error(NoPlan, (), rest, task_of_sizes((5,), 1), 1, (0,))
        self.assert_error(NoPlan, (), rest, even_task(30, 1, 1), 30, (0,) * 30)
        self.assertEqual(rest(even_task(30, 1, 1), 30, (0,) * 29), (2, (0,) * 30))
        for thing in odd_things():
            if not is_from_1_to_30(thing):
                self.assert_error(NoNumber, (), rest, T, thing, thing)


class SureTest(Checks):

    def test_against_all_plans(self):
        for task in varied_tasks(75, 4, 5):
            hours = len(task.writes)
            for most in (1, 2, 3, 6, 30):
                plans = least_plans_by_words(task, most)[1]
                for hour in range(hours):
                    self.assertEqual(choices_at(task, most, hour), tuple(sorted({plan[hour] for plan in plans})))
                    for begin in range(hour + 1):
                        self.assertEqual(dearer(task, most, hour, begin), dearer_by_words(task, most, hour, begin))

    def test_begins_that_no_plan_can_have(self):
        for task in (T, even_task(30, 0, 0)):
            for hour in range(3):
                self.assertEqual(choices_at(task, 1, hour), (0,))
                self.assertEqual(dearer(task, 1, hour, 0), 0)
                for begin in range(1, hour + 1):
                    self.assertIsNone(dearer(task, 1, hour, begin))
                    self.assertIsNotNone(dearer(task, 2, hour, begin))
        self.assertIsNone(dearer(even_task(30, 1, 1), 1, 29, 29))

    def test_all_are_least(self):
        task = even_task(30, 3, 0)
        for most in (2, 30):
            for hour in (0, 1, 29):
                self.assertEqual(choices_at(task, most, hour), tuple(range(hour + 1)))
                self.assertEqual(dearer(task, most, hour, hour), 0)

    def test_thirty_hours(self):
        chance = random.Random(76)
        task = random_task(chance, 30, 40, 4)
        for most in (3, 30):
            plans = all_least(task, most)
            for hour in (0, 1, 13, 28, 29):
                choices = tuple(sorted({plan[hour] for plan in plans}))
                self.assertEqual(choices_at(task, most, hour), choices)
                for begin in range(0, hour + 1, 7):
                    by = dearer(task, most, hour, begin)
                    self.assertIs(by == 0, begin in choices)
                    self.assertGreaterEqual(by, 0)
                    found = least_under(task, most, [("begins", hour, begin)])
                    self.assertEqual(found[0], least(task, most) + by)

    def test_wrong_ones(self):
        def is_hour(thing):
            return is_int(thing) and 0 <= thing <= 2

        self.assert_refused(NoNumber, (), is_from_1_to_30, lambda thing: choices_at(T, thing, 1))
        self.assert_refused(NoNumber, (), is_from_1_to_30, lambda thing: dearer(T, thing, 1, 1))
        self.assert_refused(NoHour, (), is_hour, lambda thing: choices_at(T, 3, thing))
        self.assert_refused(NoHour, (), is_hour, lambda thing: dearer(T, 3, thing, 0))
        self.assert_refused(NoHour, (), is_hour, lambda thing: dearer(T, 3, 2, thing))
        self.assert_refused(NoHour, (), lambda thing: is_int(thing) and 0 <= thing <= 1,
                            lambda thing: dearer(T, 3, 1, thing))
        for hour in (-1, 3, True, None, BIG):
            self.assert_error(NoHour, (), choices_at, T, 3, hour)
            self.assert_error(NoHour, (), dearer, T, 3, hour, 0)
            self.assert_error(NoHour, (), dearer, T, 3, 2, hour)
            self.assert_error(NoNumber, (), choices_at, T, 0, hour)
            self.assert_error(NoNumber, (), dearer, T, True, hour, hour)
        for hour, begin in [(0, 1), (1, 2), (2, 3), (0, -1)]:
            self.assert_error(NoHour, (), dearer, T, 3, hour, begin)


if __name__ == "__main__":
    unittest.main()
