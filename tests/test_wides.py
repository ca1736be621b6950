import itertools
import random
import unittest

from joinshelf.errors import NoNumber, NoPlan, NoWide
from joinshelf.plans import is_plan, shelves, widest
from joinshelf.wides import is_wide, straightened, wide_of, wide_writes
from tests.test_plans import is_from_1_to_40, plan_by_words
from tests.test_trees import some_plans_of_forty_hours
from tests.things import F, Checks, all_plans_by_words, is_int, nested


def wide_by_words(thing):
    if type(thing) is not tuple or not 1 <= len(thing) <= 40:
        return False
    for hour, begins in enumerate(thing):
        if type(begins) is not tuple or not all(is_int(begin) for begin in begins):
            return False
        if list(begins) != sorted(set(begins)) or 0 not in begins:
            return False
        if not all(begin == hour or (hour > 0 and begin in thing[hour - 1]) for begin in begins):
            return False
    return True


def all_wides(hours):
    found = [((0,),)]
    for hour in range(1, hours):
        longer = []
        for wide in found:
            others = wide[-1][1:] + (hour,)
            for many in range(len(others) + 1):
                longer += [wide + ((0, *stay),) for stay in itertools.combinations(others, many)]
        found = longer
    return found


def random_wides(seed, many, hours):
    chance = random.Random(seed)
    for _ in range(many):
        wide = [(0,)]
        stays = chance.choice([0.5, 0.8, 0.95])
        for hour in range(1, hours):
            others = wide[-1][1:] + (hour,)
            wide.append((0, *[begin for begin in others if chance.random() < stays]))
        yield tuple(wide)


def runs_by_words(begins, hour):
    return [(begin, min([other for other in begins if other > begin], default=hour + 1) - 1) for begin in begins]


def writes_by_words(wide):
    writes = []
    for hour, begins in enumerate(wide):
        ahead = runs_by_words(wide[hour - 1], hour - 1) if hour else []
        writes.append(sorted(set(runs_by_words(begins, hour)) - set(ahead)))
    return writes


def straightened_by_words(wide):
    hours = len(wide)
    gone = {}
    for b in range(hours):
        behind = [hour for hour in range(b, hours) if b not in wide[hour]]
        if behind:
            g = behind[0]
            above = [other for other in wide[g] if other > b]
            gone[b] = min(above) - 1 if above else g
    stands = [[b for b in range(hour + 1) if gone.get(b, hours) > hour] for hour in range(hours)]
    return tuple(max(begins) for begins in stands), stands


class Prices:
    """Random prices of stretches and looks."""

    def __init__(self, chance, hours):
        dear = chance.choice([3, 10, 1000])
        self.writes = {(a, m): chance.randrange(dear) for a in range(hours) for m in range(a, hours)}
        self.looks = {(a, t): chance.randrange(dear) for a in range(hours) for t in range(a, hours)}

    def of(self, wide):
        """The cost of a wide plan, and the greatest writing of an hour."""
        written = [sum(self.writes[run] for run in runs) for runs in writes_by_words(wide)]
        looked = sum(self.looks[begin, hour] for hour, begins in enumerate(wide) for begin in begins)
        return sum(written) + looked, max(written)


class WideTest(Checks):

    def test_example_e06(self):
        self.assertEqual(wide_writes(((0,), (0, 1), (0, 2))), [[(0, 0)], [(1, 1)], [(0, 1), (2, 2)]])
        self.assertEqual(straightened(((0,), (0, 1), (0, 2))), (0, 0, 2))

    def test_each_of_few_hours(self):
        for hours in range(1, 4):
            known = all_wides(hours)
            begins = [told for many in range(hours + 1) for told in itertools.permutations(range(hours), many)]
            begins += [(0, 0), (-1, 0), (0, hours), (0, None)]
            for thing in itertools.product(begins, repeat=hours):
                self.assertIs(is_wide(hours, thing), thing in known, thing)
        for hours in (4, 5):
            for wide in all_wides(hours):
                self.assertIs(is_wide(hours, wide), True)
                self.assertIs(is_wide(hours - 1, wide), False)
                self.assertIs(is_wide(hours + 1, wide), False)

    def test_one_and_forty_hours(self):
        self.assertIs(is_wide(1, ((0,),)), True)
        self.assertIs(is_wide(40, ((0,),) * 40), True)
        full = tuple(tuple(range(hour + 1)) for hour in range(41))
        self.assertIs(is_wide(40, full[:40]), True)
        self.assertIs(is_wide(40, full), False)
        self.assert_error(NoWide, (), wide_writes, full)
        self.assert_error(NoWide, (), straightened, full)

    def test_wrong_ones(self):
        for thing in [(), [], ((),), ((1,),), ([0],), [(0,)], ((False,),), ((0,), (0, True)), ((0,), (1,)), ((0,), (1, 0)),
                      ((0,), (0, 0)), ((0,), (0, 2)), ((0,), (0,), (0, 1)), ((0,), (0, 1), (0,), (0, 1)), ((0,), None),
                      ((0,), 0), ((0,), [0, 1]), ((0,), (0, None)), ((0,), (0, "1")), ((0,), ((0,),)), (0,), None, 0, F,
                      "0", b"0", {0: (0,)}, ((0,), (-1, 0))]:
            for hours in range(1, 5):
                self.assertIs(is_wide(hours, thing), False, thing)
            self.assert_error(NoWide, (), wide_writes, thing)
            self.assert_error(NoWide, (), straightened, thing)

    def test_things_of_every_kind(self):
        self.assert_judged(lambda thing: wide_by_words(thing) and len(thing) == 1, lambda thing: is_wide(1, thing))
        self.assert_judged(lambda thing: type(thing) is tuple and wide_by_words(((0,), thing)),
                           lambda thing: is_wide(2, ((0,), thing)))
        self.assert_judged(lambda thing: is_int(thing) and thing == 1, lambda thing: is_wide(2, ((0,), (0, thing))))
        self.assert_refused(NoNumber, (), is_from_1_to_40, lambda thing: is_wide(thing, ((0,),)))
        self.assert_refused(NoPlan, (), plan_by_words, wide_of)
        self.assert_refused(NoWide, (), wide_by_words, wide_writes)
        self.assert_refused(NoWide, (), wide_by_words, straightened)
        for hours in [0, 41, True, None]:
            self.assert_error(NoNumber, (), is_wide, hours, nested("list", 40, 0))


class WritesTest(Checks):

    def test_wide_of_plans(self):
        self.assertEqual(wide_of((0,)), ((0,),))
        self.assertEqual(wide_of((0, 1, 0)), ((0,), (0, 1), (0,)))
        for hours in range(1, 8):
            for plan, stands in all_plans_by_words(hours):
                self.assertEqual(wide_of(plan), stands)
        for plan in some_plans_of_forty_hours():
            wide = wide_of(plan)
            self.assertTrue(wide_by_words(wide))
            self.assertEqual(wide, tuple(tuple(first for first, _ in shelf) for shelf in shelves(plan)))
            self.assertEqual(wide_writes(wide), [[(begin, hour)] for hour, begin in enumerate(plan)])

    def test_several_joins_at_once(self):
        wide = ((0,), (0, 1), (0, 1, 2), (0, 1, 2, 3), (0, 2, 4))
        self.assertEqual(wide_writes(wide), [[(0, 0)], [(1, 1)], [(2, 2)], [(3, 3)], [(0, 1), (2, 3), (4, 4)]])
        self.assertEqual(straightened(wide), (0, 0, 2, 2, 4))
        self.assertEqual(wide_writes(((0,), (0,))), [[(0, 0)], [(0, 1)]])

    def test_against_the_words(self):
        wides = [wide for hours in range(1, 7) for wide in all_wides(hours)]
        for wide in wides + list(random_wides(12, 30, 40)):
            self.assertEqual(wide_writes(wide), writes_by_words(wide))

    def test_each_list_is_new(self):
        found = wide_writes(((0,), (0, 1)))
        found[0].append("x")
        found.append("x")
        self.assertEqual(wide_writes(((0,), (0, 1))), [[(0, 0)], [(1, 1)]])


class StraightenedTest(Checks):

    def test_against_the_words(self):
        wides = [wide for hours in range(1, 7) for wide in all_wides(hours)]
        for wide in wides + list(random_wides(13, 60, 40)):
            self.assertEqual(straightened(wide), straightened_by_words(wide)[0])

    def test_plans_stay(self):
        for hours in range(1, 8):
            for plan, stands in all_plans_by_words(hours):
                self.assertEqual(straightened(stands), plan)
        for plan in some_plans_of_forty_hours():
            self.assertEqual(straightened(wide_of(plan)), plan)
        self.assertEqual(straightened(((0,),)), (0,))

    def test_second_fact(self):
        chance = random.Random(14)
        wides = [wide for hours in range(1, 6) for wide in all_wides(hours)]
        for wide in wides + list(random_wides(15, 60, 12)) + list(random_wides(16, 40, 40)):
            hours = len(wide)
            plan = straightened(wide)
            self.assertTrue(is_plan(hours, plan))
            told = wide_of(plan)
            self.assertEqual([list(begins) for begins in told], straightened_by_words(wide)[1])
            for begins, before in zip(told, wide):
                self.assertLessEqual(len(begins), len(before))
            self.assertLessEqual(widest(plan), max(len(begins) for begins in wide))
            for _ in range(5):
                prices = Prices(chance, hours)
                (cost, greatest), (dearer, higher) = prices.of(told), prices.of(wide)
                self.assertLessEqual(cost, dearer)
                self.assertLessEqual(greatest, higher)


if __name__ == "__main__":
    unittest.main()
