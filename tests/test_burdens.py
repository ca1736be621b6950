import itertools
import random
import unittest

from joinshelf.burdens import by_credits, is_burden, least_writing, raises, weight, writing
from joinshelf.costs import cost
from joinshelf.errors import NoBurden, NoNumber, NoPlan, NoSizes
from joinshelf.leasts import alike_least, least
from joinshelf.plans import is_plan, widest
from joinshelf.tasks import task_of_sizes
from tests.test_leasts import is_from_1_to_30
from tests.test_plans import plan_by_words
from tests.test_wides import all_wides, random_wides, runs_by_words, writes_by_words
from tests.things import (BIG, F, Checks, all_plans_by_words, fitting_plans, is_int, nested, odd_things)

MILLION = 10 ** 6


def sizes_by_words(thing):
    return type(thing) is tuple and 1 <= len(thing) <= 40 and all(is_int(size) and 1 <= size <= MILLION
                                                                   for size in thing)


def written_sizes(sizes, plan):
    return sum(sum(sizes[begin:hour + 1]) for hour, begin in enumerate(plan))


def random_sizes(chance, hours, size):
    return tuple(chance.randint(1, size) for _ in range(hours))


def some_sizes(seed, many, hours):
    """Sizes of 1 to so many hours, small and great ones, alike and unlike ones."""
    chance = random.Random(seed)
    for n in range(1, hours + 1):
        yield from [(1,) * n, (MILLION,) * n, tuple(range(1, n + 1)), tuple(range(n, 0, -1))]
        for _ in range(many):
            yield random_sizes(chance, n, chance.choice([2, 5, 100, MILLION]))


def credits_by_words(sizes, most):
    """The plan and the raises of the keeper by credits, the credits being raised 1 by 1."""
    runs, plan, lifts = [], [], []
    for hour, size in enumerate(sizes):
        lift = 0
        if len(runs) < most:
            runs.append({"begin": hour, "size": size, "credit": 0})
        else:
            while not any(run["credit"] == run["size"] for run in runs):
                lift += 1
                for run in runs:
                    run["credit"] += 1
            at = [run["credit"] == run["size"] for run in runs].index(True)
            joined = runs[at:]
            runs = runs[:at] + [{"begin": joined[0]["begin"], "credit": 0,
                                 "size": sum(run["size"] for run in joined) + size}]
        plan.append(runs[-1]["begin"])
        lifts.append(lift)
    return tuple(plan), tuple(lifts)


def stands_of(plan):
    stands = [()]
    for begin in plan:
        stands.append(tuple(other for other in stands[-1] if other < begin) + (begin,))
    return stands[1:]


def burden_by_words(sizes, most, thing):
    if type(thing) is not tuple or len(thing) != 2:
        return False
    plan, lifts = thing
    if not plan_by_words(plan) or len(plan) != len(sizes):
        return False
    stands = stands_of(plan)
    if max(map(len, stands)) > most:
        return False
    if type(lifts) is not tuple or len(lifts) != len(sizes) or not all(is_int(lift) and lift >= 0 for lift in lifts):
        return False
    for hour, lift in enumerate(lifts):
        if lift != 0 and (hour == 0 or len(stands[hour - 1]) != most):
            return False
    shelves = [runs_by_words(begins, hour) for hour, begins in enumerate(stands)]
    for run in {run for shelf in shelves for run in shelf}:
        first, last = run
        total = 0
        for hour in range(last + 1, len(sizes)):
            # This hour comes while the run stands, whether it is joined now or not.
            total += lifts[hour]
            if run not in shelves[hour]:
                break
        if total > sum(sizes[first:last + 1]):
            return False
    return True


def wide_writing(sizes, wide):
    return sum(sum(sizes[first:last + 1]) for runs in writes_by_words(wide) for first, last in runs)


class WritingTest(Checks):

    def test_example_e10(self):
        self.assertEqual(least_writing((1, 2, 1), 2), 5)

    def test_by_hand(self):
        self.assertEqual(writing((1, 2, 1), (0, 0, 0)), 8)
        self.assertEqual(writing((1, 2, 1), (0, 1, 2)), 4)
        self.assertEqual(writing((1, 2, 1), (0, 1, 1)), 6)
        self.assertEqual(writing((1, 2, 1), (0, 0, 2)), 5)
        self.assertEqual(writing((5,), (0,)), 5)
        self.assertEqual(least_writing((1, 2, 1), 1), 8)
        self.assertEqual(least_writing((1, 2, 1), 3), 4)

    def test_against_all_plans(self):
        for sizes in some_sizes(100, 6, 7):
            hours = len(sizes)
            known = {}
            for plan, stands in all_plans_by_words(hours):
                known.setdefault(max(map(len, stands)), []).append(writing(sizes, plan))
                self.assertEqual(writing(sizes, plan), written_sizes(sizes, plan))
            for most in [*range(1, hours + 2), 30]:
                best = min(min(prices) for wide, prices in known.items() if wide <= most)
                self.assertEqual(least_writing(sizes, most), best)

    def test_one_and_forty_hours(self):
        for size in (1, MILLION):
            for most in (1, 2, 30):
                self.assertEqual(least_writing((size,), most), size)
            self.assertEqual(writing((size,), (0,)), size)
            for most in (1, 2, 3, 7, 29, 30):
                self.assertEqual(least_writing((size,) * 40, most), size * alike_least(40, 1, 0, most))
            self.assertEqual(writing((size,) * 40, (0,) * 40), size * 820)
            self.assertEqual(writing((size,) * 40, tuple(range(40))), size * 40)

    def test_unlike_sizes_of_many_hours(self):
        chance = random.Random(101)
        for hours in (30, 40):
            sizes = random_sizes(chance, hours, MILLION)
            self.assertEqual(least_writing(sizes, 1), sum(size * (hours - at) for at, size in enumerate(sizes)))
            known = {}

            def best(runs, first, last):
                if first > last:
                    return 0
                if (runs, first, last) not in known:
                    tops = range(first if runs > 1 else last, last + 1)
                    known[runs, first, last] = min(best(runs, first, top - 1) + sum(sizes[first:top + 1])
                                                   + best(runs - 1, top + 1, last) for top in tops)
                return known[runs, first, last]

            for most in (2, 3, 5, 30):
                self.assertEqual(least_writing(sizes, most), best(most, 0, hours - 1))
            if hours == 30:
                for most in (1, 2, 3, 30):
                    self.assertEqual(least_writing(sizes, most), least(task_of_sizes(sizes, 0), most))

    def test_costs_of_a_task(self):
        chance = random.Random(102)
        for sizes in some_sizes(102, 2, 6):
            plan = chance.choice(all_plans_by_words(len(sizes)))[0]
            self.assertEqual(writing(sizes, plan), cost(task_of_sizes(sizes, 0), plan))


class CreditsTest(Checks):

    def test_example_e10(self):
        self.assertEqual(by_credits((1, 2, 1), 2), (0, 1, 0))
        self.assertEqual(raises((1, 2, 1), 2), (0, 0, 1))

    def test_by_hand(self):
        # The run of the hour 1 lacks 2, that of the hour 0 lacks 3: both are raised by 2.
        self.assertEqual(by_credits((3, 2, 1, 1), 2), (0, 1, 1, 0))
        self.assertEqual(raises((3, 2, 1, 1), 2), (0, 0, 2, 1))
        # Two runs have their sizes at once: the eldest one is joined.
        self.assertEqual(by_credits((9, 2, 2, 1), 3), (0, 1, 2, 1))
        self.assertEqual(by_credits((2, 2, 5), 2), (0, 1, 0))
        self.assertEqual(raises((9, 2, 2, 1), 3), (0, 0, 0, 2))
        self.assertEqual(by_credits((1, 2, 3), 1), (0, 0, 0))
        self.assertEqual(raises((1, 2, 3), 1), (0, 1, 3))

    def test_step_by_step(self):
        chance = random.Random(103)
        for hours in (1, 2, 3, 5, 8, 13, 40):
            for size in (1, 2, 9, 40):
                sizes = random_sizes(chance, hours, size)
                for most in (1, 2, 3, 5, 29, 30):
                    plan, lifts = credits_by_words(sizes, most)
                    self.assertEqual(by_credits(sizes, most), plan)
                    self.assertEqual(raises(sizes, most), lifts)

    def test_more_runs_than_hours(self):
        for hours in (1, 5, 30):
            for most in range(hours, 31):
                self.assertEqual(by_credits((7,) * hours, most), tuple(range(hours)))
                self.assertEqual(raises((7,) * hours, most), (0,) * hours)
        self.assertEqual(by_credits((7,) * 31, 30), (*range(30), 0))
        self.assertEqual(raises((7,) * 31, 30), (0,) * 30 + (7,))

    def test_great_sizes(self):
        # A million times the sizes, a million times the raises.
        self.assertEqual(raises((MILLION,) * 40, 1), (0, *[MILLION * hour for hour in range(1, 40)]))
        for most in (1, 2, 3, 30):
            plan, lifts = credits_by_words((1,) * 40, most)
            self.assertEqual(by_credits((MILLION,) * 40, most), plan)
            self.assertEqual(raises((MILLION,) * 40, most), tuple(MILLION * lift for lift in lifts))

    def test_never_wider(self):
        chance = random.Random(104)
        for _ in range(40):
            sizes = random_sizes(chance, chance.randint(1, 40), chance.choice([3, MILLION]))
            most = chance.randint(1, 30)
            plan = by_credits(sizes, most)
            self.assertTrue(is_plan(len(sizes), plan))
            self.assertEqual(widest(plan), min(most, len(sizes)))


class BurdenTest(Checks):

    def test_by_hand(self):
        sizes = (3, 2, 1, 1)
        plan = (0, 1, 1, 0)
        for lifts, right in [((0, 0, 2, 1), True), ((0, 0, 0, 0), True), ((0, 0, 2, 0), True), ((0, 0, 1, 2), True),
                             ((0, 0, 0, 3), True), ((0, 0, 1, 1), True),
                             ((0, 0, 3, 0), False), ((0, 0, 2, 2), False), ((0, 0, 0, 4), False),
                             ((0, 1, 0, 0), False), ((1, 0, 0, 0), False), ((0, 0, 2), False),
                             ((0, 0, 2, 1, 0), False), ((), False), ((0, 0, -1, 0), False), ((0, 0, 2, -1), False),
                             ([0, 0, 2, 1], False), ((0, 0, 2, True), False), ((False, 0, 2, 1), False),
                             ((0, 0, 2, None), False), ((0, 0, 2, "1"), False), ((0, 0, BIG, 0), False)]:
            self.assertIs(is_burden(sizes, 2, (plan, lifts)), right, lifts)
            self.assertIs(burden_by_words(sizes, 2, (plan, lifts)), right, lifts)
        self.assertEqual(weight(sizes, 2, (plan, (0, 0, 2, 1))), 10)
        self.assertEqual(weight(sizes, 2, (plan, (0, 0, 0, 0))), 7)
        # With 1 run or 3, at no hour but these 2 runs stand.
        self.assertIs(is_burden(sizes, 1, (plan, (0, 0, 0, 0))), False)
        self.assertIs(is_burden(sizes, 3, (plan, (0, 0, 0, 0))), True)
        self.assertIs(is_burden(sizes, 3, (plan, (0, 0, 0, 1))), False)

    def test_plans_that_are_none(self):
        for plan in [(0, 1), (0, 1, 2, 3), (0, 0, 1), (1, 1, 1), [0, 1, 0], (0, 1, False), None, (), 0, "010",
                     (0, 1, 2), ((0,), (0, 1), (0,)), {0: 0}]:
            self.assertIs(is_burden((1, 2, 1), 2, (plan, (0, 0, 0))), False, plan)
        for plan in [(0, 0, 0), (0, 1, 0), (0, 1, 1), (0, 0, 2)]:
            self.assertIs(is_burden((1, 2, 1), 2, (plan, (0, 0, 0))), True, plan)

    def test_the_last_run_bears_all(self):
        # The run that is never joined, too, bears no more than its size.
        self.assertIs(is_burden((1, 1, 1), 1, ((0, 0, 0), (0, 1, 2))), True)
        self.assertIs(is_burden((1, 1, 1), 1, ((0, 0, 0), (0, 2, 2))), False)
        self.assertIs(is_burden((9, 1, 9, 9), 2, ((0, 1, 1, 1), (0, 0, 1, 8))), True)
        self.assertIs(is_burden((9, 1, 9, 9), 2, ((0, 1, 1, 1), (0, 0, 1, 9))), False)
        self.assertIs(is_burden((10, 1, 9, 9), 2, ((0, 1, 1, 1), (0, 0, 1, 9))), True)
        self.assertIs(is_burden((10, 1, 9, 9), 2, ((0, 1, 1, 1), (0, 0, 0, 10))), True)
        self.assertIs(is_burden((11, 1, 9, 9), 2, ((0, 1, 1, 1), (0, 0, 0, 11))), False)

    def test_all_of_few_hours(self):
        for sizes in [(1,), (2, 1), (1, 2, 1), (2, 1, 1), (1, 1, 2), (2, 2, 1), (1, 1, 1, 1), (2, 1, 2, 1)]:
            hours = len(sizes)
            rows = list(itertools.product(range(3 if hours == 4 else 4), repeat=hours))
            wides = [(max(map(len, wide)), wide_writing(sizes, wide)) for wide in all_wides(hours)]
            for most in (1, 2, 3):
                best = min(price for width, price in wides if width <= most)
                self.assertEqual(least_writing(sizes, most), best)
                for plan, _ in all_plans_by_words(hours):
                    for lifts in rows:
                        thing = (plan, lifts)
                        right = burden_by_words(sizes, most, thing)
                        self.assertIs(is_burden(sizes, most, thing), right)
                        if right:
                            self.assertEqual(weight(sizes, most, thing), sum(lifts) + sum(sizes))
                            self.assertLessEqual(weight(sizes, most, thing), best)
                        else:
                            self.assert_error(NoBurden, (), weight, sizes, most, thing)

    def test_random_ones_of_more_hours(self):
        chance = random.Random(105)
        met = {True: 0, False: 0}
        for _ in range(3000):
            hours, most = chance.randint(1, 7), chance.randint(1, 4)
            sizes = random_sizes(chance, hours, 4)
            plan, stands = chance.choice(fitting_plans(hours, most))
            lifts = [0] * hours
            for hour in range(1, hours):
                if len(stands[hour - 1]) == most:
                    lifts[hour] = chance.choice([0, 1, 2, 3, 4])
            right = burden_by_words(sizes, most, (plan, tuple(lifts)))
            self.assertIs(is_burden(sizes, most, (plan, tuple(lifts))), right)
            met[right] += 1
        self.assertGreater(min(met.values()), 500)

    def test_fifth_fact(self):
        chance = random.Random(106)
        for sizes in some_sizes(106, 4, 5):
            wides = all_wides(len(sizes))
            for most in (1, 2, 3, 5, 30):
                thing = (by_credits(sizes, most), raises(sizes, most))
                self.assertIs(is_burden(sizes, most, thing), True)
                heavy = weight(sizes, most, thing)
                self.assertLessEqual(writing(sizes, thing[0]), most * heavy)
                self.assertLessEqual(heavy, least_writing(sizes, most))
                for wide in wides:
                    if max(map(len, wide)) <= most:
                        self.assertLessEqual(heavy, wide_writing(sizes, wide))
        for _ in range(20):
            sizes = random_sizes(chance, 40, chance.choice([3, MILLION]))
            for most in (1, 2, 5, 30):
                thing = (by_credits(sizes, most), raises(sizes, most))
                self.assertIs(is_burden(sizes, most, thing), True)
                heavy = weight(sizes, most, thing)
                self.assertLessEqual(heavy, least_writing(sizes, most))
                self.assertLessEqual(writing(sizes, thing[0]), most * heavy)
                self.assertLessEqual(writing(sizes, thing[0]), most * least_writing(sizes, most))
        for wide in random_wides(107, 30, 12):
            sizes = random_sizes(chance, 12, 9)
            most = max(map(len, wide))
            self.assertLessEqual(weight(sizes, most, (by_credits(sizes, most), raises(sizes, most))),
                                 wide_writing(sizes, wide))

    def test_one_that_is_overburdened_by_1(self):
        chance = random.Random(108)
        tried = 0
        for _ in range(60):
            hours, most = chance.randint(2, 40), chance.randint(1, 4)
            sizes = random_sizes(chance, hours, chance.choice([4, MILLION]))
            plan, lifts = by_credits(sizes, most), raises(sizes, most)
            for hour in range(hours):
                more = lifts[:hour] + (lifts[hour] + 1,) + lifts[hour + 1:]
                less = lifts[:hour] + (lifts[hour] - 1,) + lifts[hour + 1:]
                # At each raise the credit of some run is then its size.
                self.assertIs(is_burden(sizes, most, (plan, more)), False)
                self.assertIs(is_burden(sizes, most, (plan, less)), lifts[hour] > 0)
                tried += lifts[hour] > 0
        self.assertGreater(tried, 200)


class WrongTest(Checks):

    def test_wrong_sizes(self):
        plan, burden = (0, 0, 0), ((0, 0, 0), (0, 0, 0))
        calls = [lambda sizes: least_writing(sizes, 2), lambda sizes: by_credits(sizes, 2),
                 lambda sizes: raises(sizes, 2), lambda sizes: is_burden(sizes, 2, burden)]
        for call in calls:
            self.assert_refused(NoSizes, (), sizes_by_words, call)
            self.assert_refused(NoSizes, (), lambda thing: sizes_by_words((thing,)), lambda thing: call((thing,)))
            self.assert_refused(NoSizes, (), lambda thing: sizes_by_words((1, thing)), lambda thing: call((1, thing)))
        for sizes in [(), (0,), (MILLION + 1,), (1,) * 41, (1, True), (1, -1), [1, 1, 1], (1, 1, None), None, 3,
                      "111", (1, 1, 0), (1, 1, MILLION + 1), nested("tuple", 40, 1), nested("list", 40, 1), F]:
            for call in calls:
                self.assert_error(NoSizes, (), call, sizes)
            self.assert_error(NoSizes, (), writing, sizes, plan)
            self.assert_error(NoSizes, (), weight, sizes, 2, burden)
        for sizes in [(1,), (MILLION,), (1,) * 40, (MILLION,) * 40]:
            for call in calls[:3]:
                call(sizes)
            self.assertIs(calls[3](sizes), False)

    def test_wrong_numbers(self):
        for call in [lambda most: least_writing((1, 2), most), lambda most: by_credits((1, 2), most),
                     lambda most: raises((1, 2), most), lambda most: is_burden((1, 2), most, None),
                     lambda most: weight((1, 2), most, ((0, 0), (0, 0)))]:
            self.assert_refused(NoNumber, (), is_from_1_to_30, call)
            for most in (0, 31, -1, True, False, None, "1", (1,), BIG, -BIG, nested("dict", 40, 0)):
                self.assert_error(NoNumber, (), call, most)

    def test_wrong_plans(self):
        self.assert_refused(NoPlan, (), lambda thing: plan_by_words(thing) and len(thing) == 3,
                            lambda thing: writing((1, 2, 1), thing))
        self.assert_refused(NoPlan, (), lambda thing: plan_by_words((0, thing)),
                            lambda thing: writing((1, 2), (0, thing)))
        for plan in [(0,), (0, 0), (0, 0, 0, 0), [0, 0, 0], (0, 0, 1), (0, 0, False), None]:
            self.assert_error(NoPlan, (), writing, (1, 2, 1), plan)

    def test_wrong_burdens(self):
        self.assert_judged(lambda thing: burden_by_words((1,), 2, thing), lambda thing: is_burden((1,), 2, thing))
        self.assert_judged(lambda thing: burden_by_words((1, 2), 1, (thing, (0, 1))),
                           lambda thing: is_burden((1, 2), 1, (thing, (0, 1))))
        self.assert_judged(lambda thing: burden_by_words((1, 2), 1, ((0, 0), thing)),
                           lambda thing: is_burden((1, 2), 1, ((0, 0), thing)))
        self.assert_judged(lambda thing: is_int(thing) and 0 <= thing <= 1,
                           lambda thing: is_burden((1, 2), 1, ((0, 0), (0, thing))))
        self.assert_judged(lambda thing: is_int(thing) and thing == 0,
                           lambda thing: is_burden((1, 2), 1, ((0, 0), (thing, 0))))
        for thing in odd_things():
            if not burden_by_words((1, 2), 1, thing):
                self.assert_error(NoBurden, (), weight, (1, 2), 1, thing)
        right = ((0, 0), (0, 1))
        self.assertEqual(weight((1, 2), 1, right), 4)
        for thing in [list(right), right + ((),), right[:1], (right,), ([0, 0], (0, 1)), ((0, 0), [0, 1]), None]:
            self.assertIs(is_burden((1, 2), 1, thing), False)
            self.assert_error(NoBurden, (), weight, (1, 2), 1, thing)

    def test_order_of_errors(self):
        wrong = nested("list", 40, 0)
        for function in (least_writing, by_credits, raises):
            self.assert_error(NoSizes, (), function, wrong, wrong)
            self.assert_error(NoNumber, (), function, (1,), wrong)
        for function in (is_burden, weight):
            self.assert_error(NoSizes, (), function, (0,), 0, wrong)
            self.assert_error(NoNumber, (), function, (1,), 0, wrong)
        self.assert_error(NoBurden, (), weight, (1,), 1, wrong)
        self.assert_error(NoSizes, (), writing, (0,), wrong)


if __name__ == "__main__":
    unittest.main()
