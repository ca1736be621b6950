import itertools
import random
import unittest

from joinshelf.errors import NoNumber, NoPlan, NoTree
from joinshelf.plans import count_plans, plan_at, shelves
from joinshelf.trees import is_tree, plan_of, runs_at, times_written, tree_of
from tests.test_plans import is_from_1_to_40, plan_by_words
from tests.things import BIG, F, Checks, all_plans_by_words, is_int, nested


def tree_by_words(plan):
    tree = [None] * len(plan)

    def top(first, last):
        if first > last:
            return None
        hour = max(hour for hour in range(first, last + 1) if plan[hour] == first)
        tree[hour] = (top(first, hour - 1), top(hour + 1, last))
        return hour

    top(0, len(plan) - 1)
    return tuple(tree)


def ways_from_top(tree):
    """For each hour how often the way from the top of all goes left, and right."""
    hung = {hour for knot in tree for hour in knot}
    open_ways = [(hour, 0, 0) for hour in range(len(tree)) if hour not in hung]
    ways = {}
    while open_ways:
        hour, left, right = open_ways.pop()
        if hour is not None:
            ways[hour] = (left, right)
            open_ways += [(tree[hour][0], left + 1, right), (tree[hour][1], left, right + 1)]
    return [ways[hour] for hour in range(len(tree))]


def some_plans_of_forty_hours():
    chance = random.Random(11)
    plans = [(0,) * 40, tuple(range(40)), tuple(range(39)) + (0,)]
    for most in (2, 5, 40):
        plans += [plan_at(40, most, chance.randrange(count_plans(40, most))) for _ in range(10)]
    return plans


class TreeTest(Checks):

    def test_example_e05(self):
        self.assertEqual(tree_of((0, 1, 0)), ((None, 1), (None, None), (0, None)))
        self.assertEqual(times_written((0, 1, 0)), (2, 2, 1))
        self.assertEqual(runs_at((0, 1, 0)), (1, 2, 1))

    def test_every_plan_of_few_hours_and_back(self):
        for hours in range(1, 8):
            trees = []
            for plan, _ in all_plans_by_words(hours):
                tree = tree_of(plan)
                self.assertEqual(tree, tree_by_words(plan))
                self.assertEqual(plan_of(tree), plan)
                self.assertIs(is_tree(hours, tree), True)
                trees.append(tree)
            self.assertEqual(len(set(trees)), len(trees))

    def test_forty_hours(self):
        for plan in some_plans_of_forty_hours():
            tree = tree_of(plan)
            self.assertEqual(tree, tree_by_words(plan))
            self.assertEqual(plan_of(tree), plan)
            self.assertIs(is_tree(40, tree), True)
            self.assertIs(is_tree(39, tree), False)

    def test_one_hour(self):
        self.assertEqual(tree_of((0,)), ((None, None),))
        self.assertEqual(plan_of(((None, None),)), (0,))
        self.assertIs(is_tree(1, ((None, None),)), True)
        self.assertIs(is_tree(1, ((0, None),)), False)

    def test_each_thing_of_few_hours(self):
        for hours in range(1, 5):
            known = {tree_by_words(plan): plan for plan, _ in all_plans_by_words(hours)}
            hangs = [None, *range(hours)]
            knots = list(itertools.product(hangs, repeat=2))
            for thing in itertools.product(knots, repeat=hours):
                # Of four hours just those in which three hang: the others are many, and alike.
                if hours < 4 or len({hour for knot in thing for hour in knot if hour is not None}) == 3:
                    self.assertIs(is_tree(hours, thing), thing in known)
                    if thing in known:
                        self.assertEqual(plan_of(thing), known[thing])

    def test_wrong_ones(self):
        right = tree_of((0, 1, 0))
        wrong = [(), [], list(right), right + (None,), ((None, 1), (None, None), [0, None]),
                 ((None, True), (None, None), (0, None)), ((None, 1), (None, None), (False, None)),
                 ((None, 1), (None, None), (0, 3)), ((None, 1), (None, None), (-1, None)),
                 ((None, 1), (None, None), (0, None, None)), ((None, 1), (None, None), (0,)),
                 ((None, 1), (None, None), None), ((None, 1), (None, None), (None, None)),
                 ((None, 1), (None, None), (0, 0)), ((1, None), (None, None), (0, None)),
                 ((None, 1), (2, None), (None, None)), ((None, 2), (0, None), (None, None)),
                 ((None, 1), (None, 2), (0, None)), ((None, BIG), (None, None), (0, None)), F, None, 0, "x",
                 ((None, None),) * 3, ((None, None),) * 41, {0: right}]
        for thing in wrong:
            self.assertIs(is_tree(3, thing), False, thing)
            self.assert_error(NoTree, (), plan_of, thing)
        self.assertIs(is_tree(2, right), False)
        self.assertIs(is_tree(4, right), False)

    def test_forty_and_forty_one_hours(self):
        chain = tuple((None, hour + 1) for hour in range(39)) + ((None, None),)
        self.assertEqual(plan_of(chain), tuple(range(40)))
        longer = tuple((None, hour + 1) for hour in range(40)) + ((None, None),)
        self.assert_error(NoTree, (), plan_of, longer)
        self.assertIs(is_tree(40, longer), False)

    def test_things_of_every_kind(self):
        trees = [((None, None),)]
        self.assert_judged(lambda thing: type(thing) is tuple and thing in trees, lambda thing: is_tree(1, thing))
        self.assert_judged(lambda thing: type(thing) is tuple and thing == (None, None),
                           lambda thing: is_tree(1, (thing,)))
        self.assert_judged(lambda thing: is_int(thing) and thing == 1,
                           lambda thing: is_tree(2, ((None, thing), (None, None))))
        self.assert_judged(lambda thing: is_int(thing) and thing == 0,
                           lambda thing: is_tree(2, ((None, None), (thing, None))))
        self.assert_refused(NoTree, (), lambda thing: type(thing) is tuple and thing in trees, plan_of)
        self.assert_refused(NoNumber, (), is_from_1_to_40, lambda thing: is_tree(thing, ((None, None),)))
        self.assert_refused(NoPlan, (), plan_by_words, tree_of)
        for hours in [0, 41, True, None]:
            self.assert_error(NoNumber, (), is_tree, hours, nested("tuple", 40, 0))


class WaysTest(Checks):

    def test_against_the_words(self):
        plans = [plan for hours in range(1, 8) for plan, _ in all_plans_by_words(hours)]
        for plan in plans + some_plans_of_forty_hours():
            hours = range(len(plan))
            self.assertEqual(times_written(plan), tuple(
                sum(plan[hour] <= batch <= hour for hour in hours) for batch in hours))
            self.assertEqual(runs_at(plan), tuple(len(shelf) for shelf in shelves(plan)))

    def test_fact_of_the_ways(self):
        plans = [plan for hours in range(1, 8) for plan, _ in all_plans_by_words(hours)]
        for plan in plans + some_plans_of_forty_hours():
            ways = ways_from_top(tree_of(plan))
            self.assertEqual(times_written(plan), tuple(left + 1 for left, _ in ways))
            self.assertEqual(runs_at(plan), tuple(right + 1 for _, right in ways))

    def test_fewest_and_most(self):
        self.assertEqual(times_written((0,)), (1,))
        self.assertEqual(runs_at((0,)), (1,))
        self.assertEqual(times_written((0,) * 40), tuple(range(40, 0, -1)))
        self.assertEqual(runs_at((0,) * 40), (1,) * 40)
        self.assertEqual(times_written(tuple(range(40))), (1,) * 40)
        self.assertEqual(runs_at(tuple(range(40))), tuple(range(1, 41)))

    def test_things_of_every_kind(self):
        self.assert_refused(NoPlan, (), plan_by_words, times_written)
        self.assert_refused(NoPlan, (), plan_by_words, runs_at)
        for function in (tree_of, times_written, runs_at):
            for plan in [(), [0], (True,), (0, 0, 1), (0,) * 41]:
                self.assert_error(NoPlan, (), function, plan)


if __name__ == "__main__":
    unittest.main()
