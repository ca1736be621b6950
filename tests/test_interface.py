"""That the names, arguments and files of the interface are there, and the package's outer form."""

import ast
import inspect
import pathlib
import unittest

import joinshelf
from joinshelf import (burdens, costs, desks, feeds, floors, games, keepers, leasts, plans, reading, rests, rules, runs,
                       stores, tasks, texts, trades, trees, wides, windows)

FOLDER = pathlib.Path(joinshelf.__file__).parent

FUNCTIONS = {
    feeds: ["is_batch(thing)", "sight(feed, hour)", "value_at(feed, hour, key)"],
    runs: ["run_of(feed, first, last)", "run_sizes(feed)", "is_shelf(feed, thing)", "look(feed, shelf, hour, key)"],
    windows: ["is_table(thing)", "windows(feed)", "comes_next(feed)", "windows_bar(table)", "feed_of(table)"],
    plans: ["is_plan(hours, thing)", "shelf_behind(plan, hour)", "shelves(plan)", "all_plans(hours, most)",
            "widest(plan)", "count_plans(hours, most)", "plan_number(most, plan)", "plan_at(hours, most, number)"],
    trees: ["tree_of(plan)", "is_tree(hours, thing)", "plan_of(tree)", "times_written(plan)", "runs_at(plan)"],
    wides: ["is_wide(hours, thing)", "wide_of(plan)", "wide_writes(wide)", "straightened(wide)"],
    tasks: ["task_of(feed, looked)", "task_of_sizes(sizes, look)", "task_part(task, first, last)"],
    costs: ["written(task, plan)", "looked_at(task, plan)", "cost(task, plan)", "greatest_written(task, plan)",
            "wide_cost(task, wide)", "wide_greatest(task, wide)"],
    leasts: ["least(task, most)", "count_least(task, most)", "alike_least(hours, write, look, most)",
             "least_plan(task, most)", "all_least(task, most)"],
    floors: ["is_floor(task, most, thing)", "bound_of(task, most, thing)", "floor(task, most)"],
    rules: ["keeps(task, plan, rules)", "least_under(task, most, rules)"],
    rests: ["rest(task, most, begun)", "choices_at(task, most, hour)", "dearer(task, most, hour, begin)"],
    trades: ["trade(task, most)", "front(task, most)", "corners(task, most)", "at_price(task, most, price)",
             "steadiest(task, most)"],
    burdens: ["least_writing(sizes, most)", "writing(sizes, plan)", "weight(sizes, most, thing)",
              "by_credits(sizes, most)", "raises(sizes, most)", "is_burden(sizes, most, thing)"],
    keepers: ["led(sizes, most, keeper)", "worst(most, keeper, hours, size)"],
    games: ["surest(most, hours, size)", "keepers_book(most, hours, size, ratio)",
            "foes_book(most, hours, size, ratio)", "is_keepers_book(most, hours, size, ratio, thing)",
            "is_foes_book(most, hours, size, ratio, thing)"],
    texts: ["batch_text(batch)", "feed_text(feed)", "plan_text(plan)"],
    reading: ["read_batch(text)", "read_feed(text)", "read_plan(text)"],
}

METHODS = {
    stores.Store: ["put(self, batch, stay)", "keep(self)", "runs(self)", "look(self, key)", "look_at(self, hour, key)",
                   "stretch(self, low, high)", "rows(self)", "feed(self)", "plan(self)", "back(self)", "steps(self)",
                   "copy(self)", "trying(self, action)"],
    desks.Desk: ["tell(self, line)", "undoable(self)"],
}


class InterfaceTest(unittest.TestCase):

    def test_functions(self):
        for module, told in FUNCTIONS.items():
            for line in told:
                function = getattr(module, line.partition("(")[0])
                self.assertTrue(inspect.isfunction(function))
                self.assertEqual(function.__name__ + str(inspect.signature(function)), line)
                self.assertEqual(function.__module__, module.__name__)

    def test_classes(self):
        for made, module, told in [(feeds.Feed, feeds, "(batches, kept)"), (tasks.Task, tasks, "(writes, looks)")]:
            self.assertEqual(made.__module__, module.__name__)
            self.assertEqual(str(inspect.signature(made)), told)
            self.assertIn("__eq__", vars(made))
            self.assertEqual(made.__bases__, (object,))

    def test_methods(self):
        for made, module, told in [(stores.Store, stores, "(most)"), (desks.Desk, desks, "()")]:
            self.assertEqual(made.__module__, module.__name__)
            self.assertEqual(str(inspect.signature(made)), told)
            for line in METHODS[made]:
                function = vars(made)[line.partition("(")[0]]
                self.assertTrue(inspect.isfunction(function))
                self.assertEqual(function.__name__ + str(inspect.signature(function)), line)


class FormTest(unittest.TestCase):

    def test_only_python_files(self):
        names = [path.name for path in FOLDER.iterdir() if path.name != "__pycache__"]
        self.assertTrue(all(name.endswith(".py") and name == name.lower() for name in names), names)
        self.assertIn("__init__.py", names)

    def test_sizes_and_characters(self):
        for path in FOLDER.glob("*.py"):
            text = path.read_text(encoding="utf-8")
            lines = text.split("\n")
            self.assertLessEqual(len(lines), 399, path)
            self.assertTrue(all(len(line) <= 120 and line == line.rstrip() for line in lines), path)
            self.assertTrue(all(" " <= sign <= "~" or sign == "\n" for sign in text), path)
            for node in ast.walk(ast.parse(text)):
                if isinstance(node, ast.FunctionDef):
                    self.assertLessEqual(node.end_lineno - node.lineno + 1, 40, (path, node.name))

    def test_imports(self):
        for path in FOLDER.glob("*.py"):
            for node in ast.walk(ast.parse(path.read_text(encoding="utf-8"))):
                self.assertNotIsInstance(node, ast.Import, path)
                if isinstance(node, ast.ImportFrom):
                    self.assertEqual(node.level, 0, path)
                    known = node.module in ("heapq", "math", "itertools", "collections")
                    self.assertTrue(known or node.module.startswith("joinshelf."), path)


if __name__ == "__main__":
    unittest.main()
