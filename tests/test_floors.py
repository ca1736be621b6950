import random
import unittest

from joinshelf.errors import NoFloor, NoNumber
from joinshelf.floors import bound_of, floor, is_floor
from joinshelf.leasts import least
from joinshelf.tasks import Task, task_of_sizes
from tests.test_leasts import is_from_1_to_30
from tests.test_wides import all_wides, writes_by_words
from tests.things import (BIG, T, Checks, even_task, is_int, laid_out, looked_by_words, nested, odd_things,
                          random_task, varied_tasks)


def form_by_words(hours, most, thing):
    if type(thing) is not tuple or len(thing) != most:
        return False
    for table in thing:
        if type(table) is not tuple or len(table) != hours:
            return False
        for first, row in enumerate(table):
            if type(row) is not tuple or len(row) != hours - first or not all(map(is_int, row)):
                return False
    return True


def sides_by_words(task, entry, k, a, b):
    """All that the entry (k, a, b) must not be above, entry telling the others."""
    sides = []
    for m in range(b if k == 1 else a, b + 1):
        side = task.writes[a][0] if m == a else entry(k, a, m - 1) + task.writes[a][m - a]
        if m != b:
            side += entry(k - 1, m + 1, b) + sum(task.looks[m + 1][t - m - 1] for t in range(m + 1, b + 1))
        sides.append(side)
    return sides


def floor_by_words(task, most, thing):
    hours = len(task.writes)
    if not form_by_words(hours, most, thing):
        return False

    def entry(k, a, b):
        return thing[k - 1][a][b - a]

    return all(entry(k, a, b) <= min(sides_by_words(task, entry, k, a, b))
               for k in range(1, most + 1) for a in range(hours) for b in range(a, hours))


def built_floor(task, most, lower):
    """The floor each of whose entries is by so much lower than it could be beside the others."""
    hours = len(task.writes)
    known = {}
    for k in range(1, most + 1):
        for a in range(hours):
            for b in range(a, hours):
                sides = sides_by_words(task, lambda *at: known[at], k, a, b)
                known[k, a, b] = min(sides) - lower()
    return tuple(laid_out(hours, lambda a, b: known[k, a, b]) for k in range(1, most + 1))


def changed(thing, k, a, b, by):
    """A floor with one entry changed."""
    return tuple(laid_out(len(table), lambda i, m: table[i][m - i] + (by if (at, i, m) == (k - 1, a, b) else 0))
                 for at, table in enumerate(thing))


def entries_of(thing):
    hours = range(len(thing[0]))
    return [(k, a, b) for k in range(1, len(thing) + 1) for a in hours for b in hours if a <= b]


class FloorTest(Checks):

    def test_known_one(self):
        self.assertEqual(floor(T, 1), (((1, 4, 8), (2, 5), (1,)),))
        self.assertEqual(floor(T, 2), (((1, 4, 8), (2, 5), (1,)), ((1, 4, 6), (2, 4), (1,))))
        self.assertEqual(bound_of(T, 2, floor(T, 2)), 9)
        self.assertIs(is_floor(T, 1, (((1, 4, 8), (2, 5), (1,)),)), True)
        self.assertIs(is_floor(T, 1, (((1, 4, 9), (2, 5), (1,)),)), False)

    def test_of_the_greatest_bound(self):
        for task in varied_tasks(50, 4, 5):
            for most in (1, 2, 3, 6, 30):
                found = floor(task, most)
                self.assertTrue(floor_by_words(task, most, found))
                self.assertIs(is_floor(task, most, found), True)
                self.assertEqual(bound_of(task, most, found), least(task, most))

    def test_thirty_hours(self):
        chance = random.Random(51)
        for most in (1, 2, 30):
            task = random_task(chance, 30, 10 ** 9, 10 ** 8)
            found = floor(task, most)
            self.assertTrue(form_by_words(30, most, found))
            self.assertIs(is_floor(task, most, found), True)
            self.assertEqual(bound_of(task, most, found), least(task, most))
            for _ in range(4):
                k, a, b = chance.choice(entries_of(found))
                self.assertIs(is_floor(task, most, changed(found, k, a, b, 1)), False)

    def test_one_entry_too_great(self):
        for task in varied_tasks(52, 1, 4):
            for most in (1, 2, 3, 5):
                found = floor(task, most)
                for k, a, b in entries_of(found):
                    self.assertIs(is_floor(task, most, changed(found, k, a, b, 1)), False)
                    self.assert_error(NoFloor, (), bound_of, task, most, changed(found, k, a, b, 1))

    def test_lower_ones(self):
        chance = random.Random(53)
        for task in varied_tasks(54, 3, 4):
            hours = len(task.writes)
            for most in (1, 2, 4):
                zero = (laid_out(hours, lambda a, b: 0),) * most
                self.assertIs(is_floor(task, most, zero), True)
                self.assertEqual(bound_of(task, most, zero), sum(task.looks[0]))
                last = floor(task, 30)[-1]
                self.assertIs(is_floor(task, most, (last,) * most), True)
                cheaper = Task(tuple(tuple(price // 2 for price in row) for row in task.writes), task.looks)
                self.assertIs(is_floor(task, most, floor(cheaper, most)), True)
                for lower in (lambda: 1, lambda: chance.choice([0, 0, 1, 9]), lambda: chance.randint(0, 10 ** 58)):
                    built = built_floor(task, most, lower)
                    self.assertIs(is_floor(task, most, built), True)
                    self.assertLessEqual(bound_of(task, most, built), least(task, most))
                    self.assertEqual(bound_of(task, most, built), built[most - 1][0][hours - 1] + sum(task.looks[0]))

    def test_entries_below_zero(self):
        # Both parts of a stretch are below 0, so it must be lower still.
        task = even_task(2, 1, 1)
        low = ((-9, -9), (-9,))
        self.assertIs(is_floor(task, 1, (low,)), True)
        self.assertIs(is_floor(task, 2, (low, low)), True)
        self.assertIs(is_floor(task, 2, (((-9, -8), (-9,)), ((1, -7), (1,)))), True)
        self.assertIs(is_floor(task, 2, (((-9, -8), (-9,)), ((1, -6), (1,)))), False)
        self.assertEqual(bound_of(task, 2, (((-9, -8), (-9,)), ((1, -7), (1,)))), -5)

    def test_changed_entries_against_the_words(self):
        chance = random.Random(55)
        met = {True: 0, False: 0}
        for task in varied_tasks(56, 6, 4):
            for most in (1, 2, 3):
                for thing in (floor(task, most), built_floor(task, most, lambda: chance.choice([0, 1, 2]))):
                    for _ in range(8):
                        k, a, b = chance.choice(entries_of(thing))
                        other = changed(thing, k, a, b, chance.choice([-2, -1, 1]))
                        right = floor_by_words(task, most, other)
                        met[right] += 1
                        self.assertIs(is_floor(task, most, other), right)
        self.assertTrue(min(met.values()) > 100)

    def test_fourth_fact(self):
        chance = random.Random(57)
        for task in varied_tasks(58, 2, 4):
            hours = len(task.writes)
            costs = []
            for wide in all_wides(hours):
                writes = sum(task.writes[a][m - a] for runs in writes_by_words(wide) for a, m in runs)
                costs.append((max(map(len, wide)), writes + sum(looked_by_words(task, wide))))
            for most in (1, 2, 3, 4):
                best = min(price for width, price in costs if width <= most)
                self.assertEqual(bound_of(task, most, floor(task, most)), best)
                for _ in range(4):
                    built = built_floor(task, most, lambda: chance.choice([0, 0, 0, 1]))
                    self.assertLessEqual(bound_of(task, most, built), best)

    def test_one_hour(self):
        task = Task(((7,),), ((5,),))
        for most in (1, 2, 30):
            self.assertEqual(floor(task, most), (((7,),),) * most)
            self.assertEqual(bound_of(task, most, floor(task, most)), 12)
            self.assertIs(is_floor(task, most, (((7,),),) * (most - 1) + (((8,),),)), False)
            self.assertIs(is_floor(task, most, (((-BIG,),),) * most), True)
            self.assertEqual(bound_of(task, most, (((-BIG,),),) * most), 5 - BIG)


class WrongTest(Checks):

    def test_wrong_forms(self):
        right = floor(T, 2)
        for thing in [right[:1], right + right[:1], list(right), (list(right[0]), right[1]), (), ((), ()),
                      (right[0][:2], right[1]), (right[0], right[1] + ((0,),)), ((right[0][0], [0, 0], (0,)), right[1]),
                      (((0, 0), (0, 0), (0,)), right[1]), (((0,) * 4, (0, 0), (0,)), right[1]),
                      (((0, 0, 0), (0, 0), (False,)), right[1]), (right[0], ((0, 0, None), (0, 0), (0,))),
                      (right[0], (("0", 0, 0), (0, 0), (0,))), {0: right[0], 1: right[1]}, None,
                      nested("tuple", 40, 0)]:
            self.assertIs(is_floor(T, 2, thing), False, thing)
            self.assert_error(NoFloor, (), bound_of, T, 2, thing)

    def test_things_of_every_kind(self):
        one = task_of_sizes((3,), 0)
        self.assert_judged(lambda thing: floor_by_words(one, 1, thing), lambda thing: is_floor(one, 1, thing))
        self.assert_judged(lambda thing: floor_by_words(one, 1, (thing,)), lambda thing: is_floor(one, 1, (thing,)))
        self.assert_judged(lambda thing: floor_by_words(one, 1, ((thing,),)),
                           lambda thing: is_floor(one, 1, ((thing,),)))
        self.assert_judged(lambda thing: is_int(thing) and thing <= 3, lambda thing: is_floor(one, 1, (((thing,),),)))
        self.assert_judged(lambda thing: False, lambda thing: is_floor(T, 3, thing))
        self.assert_refused(NoFloor, (), lambda thing: is_int(thing) and thing <= 3,
                            lambda thing: bound_of(one, 1, (((thing,),),)))
        for thing in odd_things():
            if not floor_by_words(one, 1, thing):
                self.assert_error(NoFloor, (), bound_of, one, 1, thing)

    def test_wrong_numbers(self):
        right = floor(T, 1)
        self.assert_refused(NoNumber, (), is_from_1_to_30, lambda thing: is_floor(T, thing, right))
        self.assert_refused(NoNumber, (), is_from_1_to_30, lambda thing: floor(T, thing))
        for most in (0, 31, -1, True, None, "1", BIG):
            self.assert_error(NoNumber, (), is_floor, T, most, right)
            self.assert_error(NoNumber, (), bound_of, T, most, right)
            self.assert_error(NoNumber, (), bound_of, T, most, None)
            self.assert_error(NoNumber, (), floor, T, most)
        for thing in odd_things():
            if not is_from_1_to_30(thing):
                self.assert_error(NoNumber, (), bound_of, T, thing, thing)


if __name__ == "__main__":
    unittest.main()
