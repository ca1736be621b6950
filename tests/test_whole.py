"""What holds for the whole program: the examples, and the general rules of part 0."""

import copy
import pathlib
import re
import unittest

from joinshelf.burdens import by_credits, is_burden, least_writing, raises, weight, writing
from joinshelf.costs import cost, greatest_written, looked_at, wide_cost, wide_greatest, written
from joinshelf.desks import Desk
from joinshelf.feeds import Feed, is_batch, sight, value_at
from joinshelf.floors import bound_of, floor, is_floor
from joinshelf.games import foes_book, is_foes_book, is_keepers_book, keepers_book, surest
from joinshelf.keepers import led, worst
from joinshelf.leasts import alike_least, all_least, count_least, least, least_plan
from joinshelf.plans import all_plans, count_plans, is_plan, plan_at, plan_number, shelf_behind, shelves, widest
from joinshelf.reading import read_batch, read_feed, read_plan
from joinshelf.rests import choices_at, dearer, rest
from joinshelf.rules import keeps, least_under
from joinshelf.runs import is_shelf, look, run_of, run_sizes
from joinshelf.stores import Store
from joinshelf.tasks import Task, task_of, task_of_sizes, task_part
from joinshelf.texts import batch_text, feed_text, plan_text
from joinshelf.trades import at_price, corners, front, steadiest, trade
from joinshelf.trees import is_tree, plan_of, runs_at, times_written, tree_of
from joinshelf.wides import is_wide, straightened, wide_of, wide_writes
from joinshelf.windows import comes_next, feed_of, is_table, windows, windows_bar
from tests.things import BIG, Checks, nested, odd_things

f = Feed((((1, 5), (2, 7)), ((1, None),), ((2, 8), (3, 1))), (0,))
t = task_of_sizes((1, 2, 1), 1)

KEPT = {(1,): 0, (1, 1): 1}
TOLD = {(): 1, (0,): 0}


def keeper_of_none(sizes, shelf):
    return 0


def calls():
    """A right call of each function, and what it gives if that is not free."""
    table = ((2, 2, 3), (1, 3), (2,))
    wide = ((0,), (0, 1), (0, 2))
    tree = ((None, 1), (None, None), (0, None))
    text = "batch 1=5 2=7\nbatch 1-\nbatch 2=8 3=1\nkept 0\n"
    burden = ((0, 1, 0), (0, 0, 1))
    rules = [("due", 2, 2)]
    return [
        (is_batch, (((1, 5),),), True), (sight, (f, 1), {2: 7}), (value_at, (f, 1, 2), 7),
        (run_of, (f, 0, 2), ((1, 0, 5), (1, 1, None), (2, 0, 7), (2, 2, 8), (3, 2, 1))),
        (run_sizes, (f,), ((2, 3, 5), (1, 3), (2,))), (is_shelf, (f, ((0, 1), (2, 2))), True),
        (look, (f, ((0, 1), (2, 2)), 2, 1), (None, 2)), (look, (f, ((0, 1), (2, 2)), 0, 1), (5, 1)),
        (is_table, (table,), True), (windows, (f,), table), (comes_next, (f,), ((0, 1, 1), (0, 0), (0,))),
        (windows_bar, (((1, 3), (1,)),), ("back", 0, 1)), (feed_of, (((1, 3), (1,)),), None),
        (is_plan, (3, (0, 1, 1)), True), (shelf_behind, ((0, 1, 1), 2), ((0, 0), (1, 2))),
        (shelves, ((0, 1, 1),), [((0, 0),), ((0, 0), (1, 1)), ((0, 0), (1, 2))]), (widest, ((0, 1, 1),), 2),
        (count_plans, (4, 4), 14), (plan_at, (3, 3, 3), (0, 1, 1)), (plan_number, (3, (0, 1, 1)), 3),
        (all_plans, (2, 2), [(0, 0), (0, 1)]), (tree_of, ((0, 1, 0),), tree), (is_tree, (3, tree), True),
        (plan_of, (tree,), (0, 1, 0)), (times_written, ((0, 1, 0),), (2, 2, 1)), (runs_at, ((0, 1, 0),), (1, 2, 1)),
        (is_wide, (3, wide), True), (wide_of, ((0, 1, 1),), ((0,), (0, 1), (0, 1))),
        (wide_writes, (wide,), [[(0, 0)], [(1, 1)], [(0, 1), (2, 2)]]), (straightened, (wide,), (0, 0, 2)),
        (task_of, (f, ((), (1,), ())), None), (task_of_sizes, ((1, 2, 1), 1), None), (task_part, (t, 0, 1), None),
        (written, (t, (0, 0, 2)), [1, 3, 1]), (looked_at, (t, (0, 0, 2)), [1, 1, 2]), (cost, (t, (0, 0, 2)), 9),
        (greatest_written, (t, (0, 0, 2)), 3), (wide_cost, (t, wide), 12), (wide_greatest, (t, wide), 4),
        (least, (t, 3), 9), (least, (t, 1), 11), (least_plan, (t, 3), (0, 0, 2)), (count_least, (t, 3), 1),
        (all_least, (t, 3), [(0, 0, 2)]), (alike_least, (5, 1, 0, 2), 8), (floor, (t, 2), None),
        (is_floor, (t, 2, floor(t, 2)), True), (bound_of, (t, 2, floor(t, 2)), 9), (keeps, (t, (0, 0, 0), rules), True),
        (least_under, (t, 3, rules), (11, (0, 0, 0))), (rest, (t, 3, (0, 1)), (4, (0, 1, 2))),
        (choices_at, (t, 3, 1), (0,)), (dearer, (t, 3, 1, 1), 1), (trade, (t, 3), [(2, 10), (3, 9)]),
        (front, (t, 3), [(4, 6), (5, 4), (8, 3)]), (corners, (t, 3), [(4, 6), (5, 4), (8, 3)]),
        (at_price, (t, 3, (1, 1)), (5, 4)), (steadiest, (t, 3), ((1, 1), (0, 0, 2))),
        (least_writing, ((1, 2, 1), 2), 5), (writing, ((1, 2, 1), (0, 1, 0)), 7), (weight, ((1, 2, 1), 2, burden), 5),
        (by_credits, ((1, 2, 1), 2), (0, 1, 0)), (raises, ((1, 2, 1), 2), (0, 0, 1)),
        (is_burden, ((1, 2, 1), 2, burden), True), (led, ((1, 2, 1), 2, keeper_of_none), (0, 0, 0)),
        (worst, (2, keeper_of_none, 2, 2), ((5, 3), (2, 1))), (surest, (2, 3, 2), (6, 5)), (surest, (2, 4, 1), (7, 6)),
        (keepers_book, (2, 2, 1, (1, 1)), KEPT), (foes_book, (2, 1, 1, (0, 1)), TOLD),
        (is_keepers_book, (2, 2, 1, (1, 1), KEPT), True), (is_foes_book, (2, 1, 1, (0, 1), TOLD), True),
        (batch_text, (((1, None), (3, -4)),), "1- 3=-4"), (feed_text, (f,), text), (plan_text, ((0, 1, 1),), "0,1,1"),
        (read_batch, ("1- 3=-4",), ((1, None), (3, -4))), (read_feed, (text,), f), (read_plan, ("0,1,1",), (0, 1, 1)),
    ]


def spoil(thing):
    """Changes each list and each dict in a thing."""
    if isinstance(thing, dict):
        for inner in thing.values():
            spoil(inner)
        thing.clear()
    elif isinstance(thing, (list, tuple)):
        for inner in thing:
            spoil(inner)
        if isinstance(thing, list):
            thing.append("x")


def is_told(thing):
    """Whether a thing is of the kinds that are told, and no others: integers that are none, or floats, say."""
    if type(thing) in (list, tuple):
        return all(is_told(inner) for inner in thing)
    if type(thing) is dict:
        return all(is_told(key) and is_told(value) for key, value in thing.items())
    return thing is None or type(thing) in (int, bool, str, Feed, Task)


class ExamplesTest(unittest.TestCase):

    def test_all(self):
        self.assertEqual(sight(f, 1), {2: 7})
        self.assertEqual(run_of(f, 0, 2), ((1, 0, 5), (1, 1, None), (2, 0, 7), (2, 2, 8), (3, 2, 1)))
        self.assertEqual(run_sizes(f), ((2, 3, 5), (1, 3), (2,)))
        self.assertEqual(look(f, ((0, 1), (2, 2)), 2, 1), (None, 2))
        self.assertEqual(look(f, ((0, 1), (2, 2)), 0, 1), (5, 1))
        self.assertEqual(windows(f), ((2, 2, 3), (1, 3), (2,)))
        self.assertEqual(comes_next(f), ((0, 1, 1), (0, 0), (0,)))
        self.assertEqual(windows_bar(((1, 3), (1,))), ("back", 0, 1))
        self.assertEqual(shelf_behind((0, 1, 1), 2), ((0, 0), (1, 2)))
        self.assertEqual(count_plans(4, 4), 14)
        self.assertEqual(plan_at(3, 3, 3), (0, 1, 1))
        self.assertEqual(tree_of((0, 1, 0)), ((None, 1), (None, None), (0, None)))
        self.assertEqual(times_written((0, 1, 0)), (2, 2, 1))
        self.assertEqual(runs_at((0, 1, 0)), (1, 2, 1))
        self.assertEqual(wide_writes(((0,), (0, 1), (0, 2))), [[(0, 0)], [(1, 1)], [(0, 1), (2, 2)]])
        self.assertEqual(straightened(((0,), (0, 1), (0, 2))), (0, 0, 2))
        self.assertEqual(least(t, 3), 9)
        self.assertEqual(least_plan(t, 3), (0, 0, 2))
        self.assertEqual(least(t, 1), 11)
        self.assertEqual(alike_least(5, 1, 0, 2), 8)
        self.assertEqual(least_under(t, 3, [("due", 2, 2)]), (11, (0, 0, 0)))
        self.assertEqual(rest(t, 3, (0, 1)), (4, (0, 1, 2)))
        self.assertEqual(choices_at(t, 3, 1), (0,))
        self.assertEqual(dearer(t, 3, 1, 1), 1)
        self.assertEqual(trade(t, 3), [(2, 10), (3, 9)])
        self.assertEqual(front(t, 3), [(4, 6), (5, 4), (8, 3)])
        self.assertEqual(at_price(t, 3, (1, 1)), (5, 4))
        self.assertEqual(by_credits((1, 2, 1), 2), (0, 1, 0))
        self.assertEqual(raises((1, 2, 1), 2), (0, 0, 1))
        self.assertEqual(least_writing((1, 2, 1), 2), 5)
        self.assertEqual(surest(2, 3, 2), (6, 5))
        self.assertEqual(surest(2, 4, 1), (7, 6))
        self.assertEqual(batch_text(((1, None), (3, -4))), "1- 3=-4")


class ReadmeTest(unittest.TestCase):

    def test_what_it_shows(self):
        text = (pathlib.Path(__file__).parent.parent / "README.md").read_text(encoding="utf-8")
        names = {}
        shown = 0
        for line in "".join(re.findall("```python\n(.*?)```", text, re.DOTALL)).splitlines():
            code, _, told = line.partition("  # ")
            if re.match("[(\\[{\"0-9]", told.strip()):
                given = repr(eval(code, names))
                self.assertTrue(told.strip().replace('"', "'").startswith(given), line)
                shown += 1
            else:
                exec(code, names)
        self.assertGreater(shown, 40)


class RulesTest(Checks):

    def test_equal_calls_give_equal_answers(self):
        for function, arguments, known in calls():
            with self.subTest(function=function.__name__):
                before = repr(arguments)
                given = function(*arguments)
                if known is not None:
                    self.assertTrue(given == known)
                self.assertTrue(is_told(given))
                again = function(*copy.copy(arguments))
                self.assertEqual(str(given), str(again)) if type(given) not in (Feed, Task) else None
                self.assertTrue(given == again)
                self.assertEqual(repr(arguments), before)

    def test_each_list_and_each_dict_is_new(self):
        for function, arguments, _ in calls():
            with self.subTest(function=function.__name__):
                given = function(*arguments)
                known = copy.deepcopy(given)
                spoil(given)
                self.assertTrue(function(*arguments) == known)

    def test_mutable_arguments_stay(self):
        rules = [("limit", 9), ("due", 2, 2)]
        for function, arguments in [(least_under, (t, 3, rules)), (keeps, (t, (0, 0, 0), rules))]:
            function(*arguments)
            self.assertEqual(rules, [("limit", 9), ("due", 2, 2)])
        for function, arguments in [(is_keepers_book, (2, 2, 1, (1, 1))), (is_foes_book, (2, 1, 1, (0, 1)))]:
            for book in (dict(KEPT), dict(TOLD), {}, {(): [0]}):
                before = copy.deepcopy(book)
                function(*arguments, book)
                self.assertEqual(book, before)

    def test_what_is_returned_may_be_passed_on(self):
        self.assertEqual(least_under(t, 3, trade(t, 3) and []), (9, (0, 0, 2)))
        ratio, row = worst(2, keeper_of_none, 5, 3)
        self.assertIs(is_keepers_book(2, 5, 3, ratio, keepers_book(2, 5, 3, ratio)), True)
        self.assertEqual(at_price(t, 3, steadiest(t, 3)[0]), (5, 4))
        self.assertEqual(plan_number(3, least_plan(t, 3)), 1)
        self.assertEqual(least_writing(row, 2) * ratio[0], writing(row, led(row, 2, keeper_of_none)) * ratio[1])

    def test_judges_give_flags(self):
        judges = [is_batch, lambda thing: is_shelf(f, thing), is_table, lambda thing: is_plan(3, thing),
                  lambda thing: is_tree(3, thing), lambda thing: is_wide(3, thing), lambda thing: is_floor(t, 2, thing),
                  lambda thing: is_burden((1, 2, 1), 2, thing), lambda thing: is_keepers_book(2, 2, 1, (1, 1), thing),
                  lambda thing: is_foes_book(2, 2, 1, (1, 1), thing)]
        for judge in judges:
            for thing in odd_things():
                self.assertIs(type(judge(thing)), bool)

    def test_equal_to_nothing_of_another_class(self):
        feed, task, store, desk = f, t, Store(2), Desk()
        made = [feed, task, store, desk]
        for one in made:
            for other in made:
                self.assertIs(one == other, one is other)
                self.assertIs(one != other, one is not other)
            for thing in [None, 0, (), [], {}, "", BIG, nested("list", 40, 0), (f.batches, f.kept)]:
                self.assertFalse(one == thing)


if __name__ == "__main__":
    unittest.main()
