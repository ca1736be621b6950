import random
import unittest

from joinshelf.costs import cost, greatest_written, looked_at, wide_cost, wide_greatest, written
from joinshelf.errors import NoPlan, NoWide
from joinshelf.tasks import Task, task_of_sizes
from joinshelf.wides import straightened, wide_of
from tests.test_plans import plan_by_words
from tests.test_wides import all_wides, random_wides, wide_by_words, writes_by_words
from tests.things import (T, Checks, all_plans_by_words, laid_out, looked_by_words, nested, random_task, varied_tasks,
                          written_by_words)

OF_PLANS = (written, looked_at, cost, greatest_written)
OF_WIDES = (wide_cost, wide_greatest)


class PlanCostTest(Checks):

    def test_known_ones(self):
        self.assertEqual(written(T, (0, 0, 2)), [1, 3, 1])
        self.assertEqual(looked_at(T, (0, 0, 2)), [1, 1, 2])
        self.assertEqual(cost(T, (0, 0, 2)), 9)
        self.assertEqual(greatest_written(T, (0, 0, 2)), 3)
        task = Task(((1, 20, 300), (4, 50), (6,)), ((1000, 2000, 3000), (40000, 50000), (600000,)))
        self.assertEqual(written(task, (0, 1, 1)), [1, 4, 50])
        self.assertEqual(looked_at(task, (0, 1, 1)), [1000, 42000, 53000])
        self.assertEqual(written(task, (0, 1, 0)), [1, 4, 300])
        self.assertEqual(looked_at(task, (0, 1, 0)), [1000, 42000, 3000])

    def test_one_run_and_as_many_as_hours(self):
        chance = random.Random(30)
        for hours in (1, 2, 30):
            task = random_task(chance, hours, 10 ** 9, 10 ** 9)
            self.assertEqual(written(task, (0,) * hours), list(task.writes[0]))
            self.assertEqual(looked_at(task, (0,) * hours), list(task.looks[0]))
            alone = tuple(range(hours))
            self.assertEqual(written(task, alone), [row[0] for row in task.writes])
            self.assertEqual(looked_at(task, alone),
                             [sum(task.looks[a][t - a] for a in range(t + 1)) for t in range(hours)])
            self.assertEqual(greatest_written(task, (0,) * hours), max(task.writes[0]))

    def test_against_the_words(self):
        for task in varied_tasks(31, 3, 6):
            hours = len(task.writes)
            for plan, stands in all_plans_by_words(hours):
                writes, looks = written_by_words(task, plan), looked_by_words(task, stands)
                self.assertEqual(written(task, plan), writes)
                self.assertEqual(looked_at(task, plan), looks)
                self.assertEqual(cost(task, plan), sum(writes) + sum(looks))
                self.assertEqual(greatest_written(task, plan), max(writes))
                self.assertEqual(wide_cost(task, stands), sum(writes) + sum(looks))
                self.assertEqual(wide_greatest(task, stands), max(writes))

    def test_each_list_is_new(self):
        for function in (written, looked_at):
            known = function(T, (0, 0, 0))
            function(T, (0, 0, 0)).append("x")
            self.assertEqual(function(T, (0, 0, 0)), known)

    def test_wrong_plans(self):
        for function in OF_PLANS:
            self.assert_refused(NoPlan, (), lambda thing: plan_by_words(thing) and len(thing) == 3,
                                lambda thing: function(T, thing))
            for plan in [(0, 0), (0, 0, 0, 0), (), [0, 0, 0], (0, True, 0), (0, 0, 1), (0,) * 31, ((0,), (0,), (0,)),
                         nested("tuple", 40, 0)]:
                self.assert_error(NoPlan, (), function, T, plan)
            self.assert_error(NoPlan, (), function, task_of_sizes((1,) * 30, 0), tuple(range(31)))
            self.assert_error(NoPlan, (), function, task_of_sizes((1,) * 30, 0), tuple(range(29)))


class WideCostTest(Checks):

    def test_joins_in_the_midst(self):
        task = Task(laid_out(5, lambda a, m: 10 ** (a + m)), laid_out(5, lambda a, t: 2))
        wide = ((0,), (0, 1), (0, 1, 2), (0, 1, 2, 3), (0, 2, 4))
        # Behind the last hour the runs (0, 1), (2, 3) and (4, 4) are new.
        self.assertEqual(wide_greatest(task, wide), 10 + 10 ** 5 + 10 ** 8)
        self.assertEqual(wide_cost(task, wide), 1 + 100 + 10 ** 4 + 10 ** 6 + 10 + 10 ** 5 + 10 ** 8 + 2 * 13)
        self.assertEqual(wide_cost(T, ((0,), (0, 1), (0, 2))), 1 + 2 + (3 + 1) + 1 + 2 + 2)
        self.assertEqual(wide_greatest(T, ((0,), (0, 1), (0, 2))), 4)

    def test_against_the_words(self):
        chance = random.Random(32)
        wides = [wide for hours in range(1, 6) for wide in all_wides(hours)] + list(random_wides(33, 20, 30))
        for wide in wides:
            task = random_task(chance, len(wide), chance.choice([0, 5, 10 ** 9]), chance.choice([0, 5, 10 ** 9]))
            writes = [sum(task.writes[a][m - a] for a, m in runs) for runs in writes_by_words(wide)]
            looks = looked_by_words(task, wide)
            self.assertEqual(wide_cost(task, wide), sum(writes) + sum(looks))
            self.assertEqual(wide_greatest(task, wide), max(writes))
            plan = straightened(wide)
            self.assertLessEqual(cost(task, plan), wide_cost(task, wide))
            self.assertLessEqual(greatest_written(task, plan), wide_greatest(task, wide))
            self.assertEqual(wide_cost(task, wide_of(plan)), cost(task, plan))

    def test_wrong_ones(self):
        for function in OF_WIDES:
            self.assert_refused(NoWide, (), lambda thing: wide_by_words(thing) and len(thing) == 3,
                                lambda thing: function(T, thing))
            for wide in [(), ((0,), (0,)), ((0,),) * 4, [(0,)] * 3, ([0], [0], [0]), (0, 0, 0), ((0,), (0,), (0, 1)),
                         ((0,), (0, True), (0,)), nested("tuple", 40, 0)]:
                self.assert_error(NoWide, (), function, T, wide)
            self.assert_error(NoWide, (), function, task_of_sizes((1,) * 30, 0), ((0,),) * 31)
            self.assert_error(NoWide, (), function, task_of_sizes((1,) * 30, 0), ((0,),) * 29)


if __name__ == "__main__":
    unittest.main()
