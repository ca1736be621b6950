import itertools
import math
import random
import unittest

from joinshelf.errors import NoHour, NoNumber, NoPlan, TooMany
from joinshelf.plans import all_plans, count_plans, is_plan, plan_at, plan_number, shelf_behind, shelves, widest
from tests.things import BIG, F, Checks, all_plans_by_words, is_int, nested, odd_things


def plan_by_words(thing):
    if type(thing) is not tuple or not 1 <= len(thing) <= 40:
        return False
    standing = []
    for hour, begin in enumerate(thing):
        if not is_int(begin) or not (begin == hour or begin in standing):
            return False
        standing = [other for other in standing if other < begin] + [begin]
    return True


def is_from_1_to_40(thing):
    return is_int(thing) and 1 <= thing <= 40


class PlanTest(Checks):

    def test_each_tuple_of_few_hours(self):
        for hours in range(1, 6):
            known = {plan for plan, _ in all_plans_by_words(hours)}
            for thing in itertools.product(range(-1, hours + 1), repeat=hours):
                self.assertIs(is_plan(hours, thing), thing in known, thing)

    def test_hours_must_fit(self):
        self.assertIs(is_plan(3, (0, 1)), False)
        self.assertIs(is_plan(2, (0, 1, 1)), False)
        self.assertIs(is_plan(1, (0,)), True)
        self.assertIs(is_plan(40, (0,) * 40), True)
        self.assertIs(is_plan(40, tuple(range(40))), True)
        self.assertIs(is_plan(40, tuple(range(41))), False)
        self.assertIs(is_plan(40, (0,) * 39 + (40,)), False)

    def test_wrong_ones(self):
        for thing in [(), (1,), [0], (False,), (0, True), (0, 1, 2, True), (0, 1, 0, 1), (0, 1, 2, 0, 1), (0, None),
                      (0, "1"), (0, (1,)), (0, 0, 1), (0, 2), (0, -1), (0, BIG), None, 0, F, "0", b"\x00", range(1),
                      {0: 0}, {}]:
            for hours in range(1, 6):
                self.assertIs(is_plan(hours, thing), False, thing)

    def test_things_of_every_kind(self):
        self.assert_judged(lambda thing: plan_by_words(thing) and len(thing) == 1, lambda thing: is_plan(1, thing))
        self.assert_judged(lambda thing: plan_by_words(thing) and len(thing) == 2, lambda thing: is_plan(2, thing))
        self.assert_judged(lambda thing: is_int(thing) and thing in (0, 1), lambda thing: is_plan(2, (0, thing)))
        self.assert_refused(NoNumber, (), is_from_1_to_40, lambda thing: is_plan(thing, (0,)))
        for hours in [0, 41, -1, True, None, "1", BIG]:
            self.assert_error(NoNumber, (), is_plan, hours, nested("list", 40, 0))


class ShelvesTest(Checks):

    def test_example_e04(self):
        self.assertEqual(shelf_behind((0, 1, 1), 2), ((0, 0), (1, 2)))
        self.assertEqual(count_plans(4, 4), 14)
        self.assertEqual(plan_at(3, 3, 3), (0, 1, 1))

    def test_against_the_words(self):
        for hours in range(1, 8):
            for plan, stands in all_plans_by_words(hours):
                known = []
                for hour, begins in enumerate(stands):
                    ends = [begin - 1 for begin in begins[1:]] + [hour]
                    known.append(tuple((begin, end) for begin, end in zip(begins, ends)))
                self.assertEqual(shelves(plan), known)
                self.assertEqual([shelf_behind(plan, hour) for hour in range(hours)], known)
                self.assertEqual(widest(plan), max(len(begins) for begins in stands))

    def test_one_and_forty_hours(self):
        self.assertEqual(shelves((0,)), [((0, 0),)])
        self.assertEqual(widest((0,)), 1)
        self.assertEqual(shelves((0,) * 40), [((0, hour),) for hour in range(40)])
        self.assertEqual(widest((0,) * 40), 1)
        alone = tuple(range(40))
        self.assertEqual(shelf_behind(alone, 39), tuple((hour, hour) for hour in range(40)))
        self.assertEqual(widest(alone), 40)
        self.assertEqual(widest(tuple(range(39)) + (0,)), 39)
        self.assertEqual(shelf_behind(tuple(range(39)) + (0,), 39), ((0, 39),))

    def test_each_list_is_new(self):
        found = shelves((0, 1))
        found.append("x")
        self.assertEqual(shelves((0, 1)), [((0, 0),), ((0, 0), (1, 1))])

    def test_wrong_plans_and_hours(self):
        self.assert_refused(NoPlan, (), plan_by_words, lambda thing: shelf_behind(thing, 0))
        self.assert_refused(NoPlan, (), plan_by_words, shelves)
        self.assert_refused(NoPlan, (), plan_by_words, widest)
        self.assert_refused(NoHour, (), lambda thing: is_int(thing) and 0 <= thing <= 2,
                            lambda thing: shelf_behind((0, 1, 1), thing))
        for plan in [(), [0], (0, 0, 1), (0,) * 41, tuple(range(41)), (0, True)]:
            for function in (shelves, widest):
                self.assert_error(NoPlan, (), function, plan)
            self.assert_error(NoPlan, (), shelf_behind, plan, 99)
        for hour in [-1, 3, True, None]:
            self.assert_error(NoHour, (), shelf_behind, (0, 1, 1), hour)


class NumbersTest(Checks):

    def test_all_plans_of_few_hours(self):
        for hours in range(1, 8):
            known = all_plans_by_words(hours)
            for most in list(range(1, hours + 2)) + [40]:
                fit = [plan for plan, stands in known if max(len(begins) for begins in stands) <= most]
                self.assertEqual(fit, sorted(fit))
                self.assertEqual(count_plans(hours, most), len(fit))
                self.assertEqual(all_plans(hours, most), fit)
                for number, plan in enumerate(fit):
                    self.assertEqual(plan_at(hours, most, number), plan)
                    self.assertEqual(plan_number(most, plan), number)
                self.assert_error(NoNumber, (), plan_at, hours, most, len(fit))
                for plan, stands in known:
                    if max(len(begins) for begins in stands) > most:
                        self.assert_error(NoPlan, (), plan_number, most, plan)

    def test_known_numbers(self):
        for hours in range(1, 41):
            catalan = math.comb(2 * hours, hours) // (hours + 1)
            self.assertEqual(count_plans(hours, 40), catalan)
            self.assertEqual(count_plans(hours, hours), catalan)
            self.assertEqual(count_plans(hours, 1), 1)
            self.assertEqual(count_plans(hours, 2), 2 ** (hours - 1))
            if hours > 1:
                self.assertEqual(count_plans(hours, hours - 1), catalan - 1)

    def test_first_and_last_of_forty_hours(self):
        last = count_plans(40, 40) - 1
        self.assertEqual(plan_at(40, 40, 0), (0,) * 40)
        self.assertEqual(plan_at(40, 40, last), tuple(range(40)))
        self.assertEqual(plan_number(40, (0,) * 40), 0)
        self.assertEqual(plan_number(40, tuple(range(40))), last)
        self.assert_error(NoNumber, (), plan_at, 40, 40, last + 1)
        self.assert_error(NoNumber, (), plan_at, 40, 40, -1)
        self.assertEqual(plan_at(40, 1, 0), (0,) * 40)
        self.assertEqual(plan_at(40, 2, 2 ** 39 - 1), (0,) + (1,) * 39)
        self.assertEqual(plan_at(40, 3, count_plans(40, 3) - 1), (0, 1) + (2,) * 38)

    def test_numbers_and_back_of_forty_hours(self):
        chance = random.Random(10)
        for most in [2, 3, 7, 20, 39, 40]:
            many = count_plans(40, most)
            numbers = sorted(chance.randrange(many) for _ in range(15))
            plans = [plan_at(40, most, number) for number in numbers]
            self.assertEqual(plans, sorted(plans))
            for number, plan in zip(numbers, plans):
                self.assertTrue(plan_by_words(plan))
                self.assertLessEqual(widest(plan), most)
                self.assertEqual(plan_number(most, plan), number)

    def test_two_thousand_and_more(self):
        self.assertEqual(len(all_plans(9, 3)), 1597)
        self.assertEqual(len(all_plans(11, 2)), 1024)
        self.assertEqual(all_plans(40, 1), [(0,) * 40])
        self.assert_error(TooMany, (2000,), all_plans, 12, 2)
        self.assert_error(TooMany, (2000,), all_plans, 9, 4)
        self.assert_error(TooMany, (2000,), all_plans, 9, 40)
        self.assert_error(TooMany, (2000,), all_plans, 40, 40)

    def test_each_list_is_new(self):
        all_plans(2, 2).clear()
        self.assertEqual(all_plans(2, 2), [(0, 0), (0, 1)])

    def test_wrong_numbers(self):
        self.assert_refused(NoNumber, (), is_from_1_to_40, lambda thing: count_plans(thing, 3))
        self.assert_refused(NoNumber, (), is_from_1_to_40, lambda thing: count_plans(3, thing))
        self.assert_refused(NoNumber, (), is_from_1_to_40, lambda thing: plan_at(thing, 3, 0))
        self.assert_refused(NoNumber, (), is_from_1_to_40, lambda thing: plan_at(3, thing, 0))
        self.assert_refused(NoNumber, (), lambda thing: is_int(thing) and 0 <= thing <= 4,
                            lambda thing: plan_at(3, 3, thing))
        self.assert_refused(NoNumber, (), is_from_1_to_40, lambda thing: all_plans(thing, 1))
        self.assert_refused(NoNumber, (), is_from_1_to_40, lambda thing: all_plans(3, thing))
        self.assert_refused(NoNumber, (), is_from_1_to_40, lambda thing: plan_number(thing, (0, 0)))
        for number in [0, 41, True, False, None, "3", (3,)]:
            self.assert_error(NoNumber, (), count_plans, number, 3)
            self.assert_error(NoNumber, (), count_plans, 3, number)
            self.assert_error(NoNumber, (), plan_number, number, (0,))

    def test_wrong_plans(self):
        self.assert_refused(NoPlan, (), plan_by_words, lambda thing: plan_number(40, thing))
        for plan in odd_things():
            if plan_by_words(plan) and widest(plan) > 1:
                self.assert_error(NoPlan, (), plan_number, 1, plan)
        self.assert_error(NoPlan, (), plan_number, 39, tuple(range(40)))
        self.assert_error(NoPlan, (), plan_number, 2, (0, 1, 2))

    def test_order_of_errors(self):
        self.assert_error(NoNumber, (), all_plans, 40, 41)
        self.assert_error(NoNumber, (), all_plans, 41, 40)
        self.assert_error(NoNumber, (), all_plans, 40, True)
        self.assert_error(NoNumber, (), plan_number, 0, [0])
        self.assert_error(NoNumber, (), plan_number, None, (0, 1, 2))
        self.assert_error(NoNumber, (), plan_at, None, None, None)


if __name__ == "__main__":
    unittest.main()
