import random
import unittest

from joinshelf.costs import looked_at, written
from joinshelf.errors import BadTask, NoHour, NoLooked, NoNumber, NoSizes, TooMany
from joinshelf.feeds import Feed
from joinshelf.plans import shelf_behind
from joinshelf.runs import look, run_of, run_sizes
from joinshelf.tasks import Task, task_of, task_of_sizes, task_part
from tests.things import (BIG, F, T, Checks, all_plans_by_words, full_feed, is_int, laid_out, nested, odd_things,
                          random_task, rows_of_random_feeds)

ZERO = laid_out(3, lambda a, m: 0)


def row_by_words(many, thing):
    return type(thing) is tuple and len(thing) == many and all(is_int(n) and 0 <= n <= 10 ** 9 for n in thing)


def looked_hour_by_words(thing):
    if type(thing) is not tuple or len(thing) > 60:
        return False
    return all(sought is None or (is_int(sought) and 0 <= sought <= 999) for sought in thing)


def looks_by_words(feed, looked):
    def entry(begin, hour):
        many = 0
        for key in looked[hour]:
            versions = [at for at in range(hour + 1) if any(told == key for told, _ in feed.batches[at])]
            if begin == 0 or not versions or begin > max(versions):
                many += 1
        return many
    return laid_out(len(feed.batches), entry)


def random_looked(chance, hours, keys):
    return tuple(tuple(chance.choice([None, *range(keys)]) for _ in range(chance.randint(0, 4))) for _ in range(hours))


class TaskTest(Checks):

    def test_attributes(self):
        writes = laid_out(3, lambda a, m: 10 * a + m)
        looks = laid_out(3, lambda a, t: a + 2 * t)
        task = Task(writes, looks)
        self.assertEqual((task.writes, task.looks), (writes, looks))

    def test_one_and_thirty_hours(self):
        for hours in (1, 30):
            for number in (0, 10 ** 9):
                table = laid_out(hours, lambda a, m: number)
                self.assertEqual(Task(table, table).writes, table)
        for hours in (31, 40):
            table = laid_out(hours, lambda a, m: 0)
            self.assert_error(BadTask, ("writes", -1), Task, table, table)
        self.assert_error(BadTask, ("writes", -1), Task, (), ())

    def test_wrong_writes(self):
        for thing in odd_things():
            if type(thing) is not tuple or not 1 <= len(thing) <= 30:
                self.assert_error(BadTask, ("writes", -1), Task, thing, ())
        for thing in odd_things():
            if row_by_words(3, thing):
                self.assertEqual(Task((thing,) + ZERO[1:], ZERO).writes[0], thing)
            else:
                self.assert_error(BadTask, ("writes", 0), Task, (thing,) + ZERO[1:], ZERO)
            if not row_by_words(2, thing):
                self.assert_error(BadTask, ("writes", 1), Task, (ZERO[0], thing, thing), thing)
            if not row_by_words(1, (thing,)):
                self.assert_error(BadTask, ("writes", 2), Task, ZERO[:2] + ((thing,),), thing)
        for number in (-1, 10 ** 9 + 1, BIG, True, False, None, "0"):
            self.assert_error(BadTask, ("writes", 1), Task, (ZERO[0], (0, number), ZERO[2]), ZERO)
        for row in ([0, 0], (0,), (0, 0, 0), ()):
            self.assert_error(BadTask, ("writes", 1), Task, (ZERO[0], row, ZERO[2]), ZERO)
        self.assert_error(BadTask, ("writes", -1), Task, list(ZERO), ZERO)
        self.assert_error(BadTask, ("writes", 0), Task, ((0,), (0,)), ZERO)

    def test_wrong_looks(self):
        for thing in odd_things():
            if type(thing) is not tuple or len(thing) != 3:
                self.assert_error(BadTask, ("looks", -1), Task, ZERO, thing)
            if row_by_words(3, thing):
                self.assertEqual(Task(ZERO, (thing,) + ZERO[1:]).looks[0], thing)
            else:
                self.assert_error(BadTask, ("looks", 0), Task, ZERO, (thing,) + ZERO[1:])
            if not row_by_words(2, thing):
                self.assert_error(BadTask, ("looks", 1), Task, ZERO, (ZERO[0], thing, thing))
        for hours in (1, 2, 4, 30, 31):
            self.assert_error(BadTask, ("looks", -1), Task, ZERO, laid_out(hours, lambda a, t: 0))
        for number in (-1, 10 ** 9 + 1, True, None):
            self.assert_error(BadTask, ("looks", 2), Task, ZERO, ZERO[:2] + ((number,),))
        self.assert_error(BadTask, ("looks", -1), Task, ZERO, list(ZERO))
        self.assert_error(BadTask, ("looks", 0), Task, ZERO, ([0, 0, 0], [0, 0], [0]))

    def test_order_of_errors(self):
        deep = nested("tuple", 40, 0)
        self.assert_error(BadTask, ("writes", 2), Task, ZERO[:2] + ((0, 0),), deep)
        self.assert_error(BadTask, ("looks", -1), Task, ZERO, deep)
        self.assert_error(BadTask, ("writes", 0), Task, deep, deep)

    def test_equality(self):
        other = laid_out(3, lambda a, m: 1)
        self.assertTrue(Task(ZERO, other) == Task(tuple(list(ZERO)), laid_out(3, lambda a, m: 1)))
        self.assertFalse(Task(ZERO, other) == Task(other, ZERO))
        self.assertFalse(Task(ZERO, other) == Task(ZERO, ZERO))
        self.assertFalse(Task(ZERO, other) == Task(other, other))
        self.assertTrue(Task(ZERO, ZERO) != Task(laid_out(2, lambda a, m: 0), laid_out(2, lambda a, m: 0)))
        for thing in odd_things() + [(T.writes, T.looks)]:
            if thing is not T:
                self.assertFalse(T == thing)
                self.assertFalse(thing == T)


class TaskOfTest(Checks):

    def test_keys_of_every_fate(self):
        # 1 comes first and again, 2 comes and is struck, 3 is struck at once, 4 never comes.
        feed = Feed((((1, 5), (2, 5)), (), ((2, None), (3, None)), ((1, 6),)), ())
        self.assertEqual(task_of(feed, ((1,),) * 4).looks, ((1, 1, 1, 1), (1, 1, 0), (1, 0), (0,)))
        self.assertEqual(task_of(feed, ((2,),) * 4).looks, ((1, 1, 1, 1), (1, 0, 0), (0, 0), (1,)))
        self.assertEqual(task_of(feed, ((3,),) * 4).looks, ((1, 1, 1, 1), (1, 0, 0), (0, 0), (1,)))
        for unknown in (4, None):
            self.assertEqual(task_of(feed, ((unknown,),) * 4).looks, laid_out(4, lambda a, t: 1))
        self.assertEqual(task_of(feed, ((), (1, 1, None), (), (4, 2))).looks, ((0, 3, 0, 2), (3, 0, 1), (0, 1), (2,)))
        self.assertEqual(task_of(feed, ((),) * 4).looks, laid_out(4, lambda a, t: 0))
        self.assertEqual(task_of(feed, ((),) * 4).writes, run_sizes(feed))

    def test_against_the_words(self):
        chance = random.Random(20)
        feeds = list(rows_of_random_feeds(21, 80, 9, 5, 5)) + [full_feed(30, (0, 29)), Feed(((),), (0,))]
        for feed in feeds:
            looked = random_looked(chance, len(feed.batches), 6)
            task = task_of(feed, looked)
            self.assertIs(type(task), Task)
            self.assertEqual(task, Task(run_sizes(feed), looks_by_words(feed, looked)))

    def test_fact_of_looks(self):
        chance = random.Random(22)
        for feed in rows_of_random_feeds(23, 30, 5, 4, 4):
            hours = len(feed.batches)
            looked = random_looked(chance, hours, 5)
            task = task_of(feed, looked)
            for plan, _ in all_plans_by_words(hours):
                looks = []
                for hour in range(hours):
                    shelf = shelf_behind(plan, hour)
                    looks.append(sum(len(shelf) if key is None else look(feed, shelf, hour, key)[1]
                                     for key in looked[hour]))
                self.assertEqual(looked_at(task, plan), looks)
                self.assertEqual(written(task, plan),
                                 [len(run_of(feed, begin, hour)) for hour, begin in enumerate(plan)])

    def test_thirty_and_more_hours(self):
        self.assertEqual(len(task_of(full_feed(30, ()), ((),) * 30).writes), 30)
        for hours in (31, 40):
            self.assert_error(TooMany, (30,), task_of, full_feed(hours, ()), ((),) * hours)
            self.assert_error(TooMany, (30,), task_of, full_feed(hours, ()), None)

    def test_sixty_and_more_things(self):
        feed = full_feed(2, ())
        task = task_of(feed, (tuple(range(60)), (None,) * 60))
        self.assertEqual(task.looks, ((60, 60), (60,)))
        self.assert_error(NoLooked, (), task_of, feed, ((None,) * 61, ()))
        self.assert_error(NoLooked, (), task_of, feed, ((), tuple(range(61))))

    def test_things_of_every_kind(self):
        for thing in odd_things():
            # F has three hours.
            if not (type(thing) is tuple and len(thing) == 3 and all(map(looked_hour_by_words, thing))):
                self.assert_error(NoLooked, (), task_of, F, thing)
        self.assert_refused(NoLooked, (), looked_hour_by_words, lambda thing: task_of(F, ((), thing, ())))
        self.assert_refused(NoLooked, (), lambda thing: looked_hour_by_words((thing,)),
                            lambda thing: task_of(F, ((), (), (0, thing))))
        for thing in [((),) * 2, ((),) * 4, [()] * 3, ([], (), ()), ((), (), (1000,)), ((), (), (-1,)),
                      ((), (), (True,)), ((), (), ("1",))]:
            self.assert_error(NoLooked, (), task_of, F, thing)
        for key in (0, 999, None):
            self.assertEqual(task_of(F, ((), (), (key,))).looks[0], (0, 0, 1))


class SizesTest(Checks):

    def test_known_ones(self):
        self.assertEqual(T, Task(((1, 3, 4), (2, 3), (1,)), ((1, 1, 1), (1, 1), (1,))))
        self.assertEqual(task_of_sizes((0,), 0), Task(((0,),), ((0,),)))
        self.assertEqual(task_of_sizes((10 ** 6,), 10 ** 6), Task(((10 ** 6,),), ((10 ** 6,),)))

    def test_against_the_words(self):
        chance = random.Random(24)
        for hours in range(1, 31):
            sizes = tuple(chance.choice([0, 1, 10 ** 6, chance.randint(0, 10 ** 6)]) for _ in range(hours))
            price = chance.choice([0, 7, 10 ** 6])
            task = task_of_sizes(sizes, price)
            self.assertIs(type(task), Task)
            self.assertEqual(task.writes, laid_out(hours, lambda a, m: sum(sizes[a:m + 1])))
            self.assertEqual(task.looks, laid_out(hours, lambda a, t: price))
        self.assertEqual(task_of_sizes((10 ** 6,) * 30, 0).writes[0][29], 3 * 10 ** 7)

    def test_wrong_ones(self):
        def is_size(thing):
            return is_int(thing) and 0 <= thing <= 10 ** 6

        def are_sizes(thing):
            return type(thing) is tuple and 1 <= len(thing) <= 30 and all(map(is_size, thing))

        self.assert_refused(NoSizes, (), are_sizes, lambda thing: task_of_sizes(thing, 1))
        self.assert_refused(NoSizes, (), is_size, lambda thing: task_of_sizes((1, thing), 1))
        self.assert_refused(NoNumber, (), is_size, lambda thing: task_of_sizes((1, 2), thing))
        for sizes in [(), (0,) * 31, [1], (-1,), (10 ** 6 + 1,), (True,), (1, None)]:
            self.assert_error(NoSizes, (), task_of_sizes, sizes, 0)
            self.assert_error(NoSizes, (), task_of_sizes, sizes, -1)
        for price in [-1, 10 ** 6 + 1, True, False, None, "1", (1,)]:
            self.assert_error(NoNumber, (), task_of_sizes, (0,) * 30, price)
        self.assert_error(NoSizes, (), task_of_sizes, nested("list", 40, 0), nested("dict", 40, 0))


class PartTest(Checks):

    def test_parts(self):
        chance = random.Random(25)
        for hours in (1, 2, 5, 30):
            task = random_task(chance, hours, 10 ** 9, 10 ** 9)
            for first in range(hours):
                for last in range(first, hours):
                    many = last - first + 1
                    part = task_part(task, first, last)
                    self.assertIs(type(part), Task)
                    self.assertEqual(part.writes, laid_out(many, lambda a, m: task.writes[first + a][m - a]))
                    self.assertEqual(part.looks, laid_out(many, lambda a, m: task.looks[first + a][m - a]))
            self.assertEqual(task_part(task, 0, hours - 1), task)

    def test_parts_of_parts(self):
        task = random_task(random.Random(26), 9, 99, 99)
        part = task_part(task, 2, 7)
        self.assertEqual(task_part(part, 1, 3), task_part(task, 3, 5))
        self.assertEqual(task_part(part, 5, 5), Task(((task.writes[7][0],),), ((task.looks[7][0],),)))

    def test_parts_of_sizes(self):
        self.assertEqual(task_part(T, 1, 2), task_of_sizes((2, 1), 1))

    def test_wrong_hours(self):
        self.assert_refused(NoHour, (), lambda thing: is_int(thing) and 0 <= thing <= 2,
                            lambda thing: task_part(T, thing, 2))
        self.assert_refused(NoHour, (), lambda thing: is_int(thing) and 1 <= thing <= 2,
                            lambda thing: task_part(T, 1, thing))
        for first, last in [(-1, 2), (3, 3), (0, 3), (2, 1), (True, 2), (0, True), (None, None), (0, -1), ("0", 0)]:
            self.assert_error(NoHour, (), task_part, T, first, last)


if __name__ == "__main__":
    unittest.main()
