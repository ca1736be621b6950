import itertools
import random
import unittest

from joinshelf.costs import cost, greatest_written
from joinshelf.errors import NoNumber, NoPlan, NoRules
from joinshelf.leasts import least, least_plan
from joinshelf.plans import is_plan, widest
from joinshelf.rules import keeps, least_under
from joinshelf.tasks import Task
from tests.test_leasts import is_from_1_to_30
from tests.test_plans import plan_by_words
from tests.things import (BIG, T, Checks, all_plans_by_words, cost_by_words, even_task, fitting_plans, is_int, laid_out,
                          nested, odd_things, random_task, varied_tasks, written_by_words)


def rule_by_words(hours, thing):
    def is_hour(number):
        return is_int(number) and 0 <= number < hours

    if type(thing) is not tuple or not thing or type(thing[0]) is not str:
        return False
    word, rest = thing[0], thing[1:]
    if word == "limit":
        return len(rest) == 1 and is_int(rest[0]) and rest[0] >= 0
    if word == "closed":
        return len(rest) == 1 and is_hour(rest[0])
    if word == "begins":
        return len(rest) == 2 and is_hour(rest[0]) and is_int(rest[1]) and 0 <= rest[1] <= rest[0]
    return word == "due" and len(rest) == 2 and is_hour(rest[0]) and is_hour(rest[1]) and rest[0] <= rest[1]


def rules_by_words(hours, thing):
    return type(thing) in (list, tuple) and len(thing) <= 20 and all(rule_by_words(hours, rule) for rule in thing)


def kept_by_words(task, plan, rules):
    for word, *rest in rules:
        if word == "limit" and max(written_by_words(task, plan)) > rest[0]:
            return False
        if word == "closed" and plan[rest[0]] != rest[0]:
            return False
        if word == "begins" and plan[rest[0]] != rest[1]:
            return False
        if word == "due" and not any(plan[hour] == 0 for hour in range(rest[0], rest[1] + 1)):
            return False
    return True


def least_under_by_words(task, most, rules):
    costs = [(cost_by_words(task, plan, stands), plan) for plan, stands in fitting_plans(len(task.writes), most)
             if kept_by_words(task, plan, rules)]
    return min(costs) if costs else None


def all_rules(hours, limits):
    rules = [("limit", limit) for limit in limits]
    for hour in range(hours):
        rules.append(("closed", hour))
        rules += [("begins", hour, begin) for begin in range(hour + 1)]
        rules += [("due", hour, last) for last in range(hour, hours)]
    return rules


def random_rules(chance, task, many):
    limits = [price + by for row in task.writes for price in row for by in (-1, 0) if price + by >= 0]
    known = all_rules(len(task.writes), limits[:6])
    found = [chance.choice(known) for _ in range(many)]
    return found if chance.random() < 0.5 else tuple(found)


class KeepsTest(Checks):

    def test_each_form(self):
        task = Task(((1, 3, 4), (2, 3), (1,)), ((1, 1, 1), (1, 1), (1,)))
        for rules, plan, right in [
                ([], (0, 0, 0), True), ((), (0, 1, 2), True),
                ([("limit", 3)], (0, 0, 2), True), ([("limit", 2)], (0, 0, 2), False),
                ([("limit", 0)], (0, 0, 2), False),
                ([("limit", BIG)], (0, 0, 0), True), ([("limit", 4)], (0, 0, 0), True),
                ([("closed", 1)], (0, 1, 0), True), ([("closed", 1)], (0, 0, 2), False),
                ([("closed", 0)], (0, 0, 0), True),
                ([("begins", 2, 1)], (0, 1, 1), True), ([("begins", 2, 1)], (0, 1, 2), False),
                ([("begins", 2, 2)], (0, 1, 2), True), ([("begins", 0, 0)], (0, 1, 2), True),
                ([("due", 1, 2)], (0, 1, 0), True), ([("due", 1, 2)], (0, 0, 2), True),
                ([("due", 1, 2)], (0, 1, 1), False),
                ([("due", 0, 2)], (0, 1, 2), True), ([("due", 2, 2)], (0, 0, 2), False),
                ([("due", 0, 0)], (0, 1, 2), True),
                ([("limit", 3), ("closed", 2), ("due", 1, 1)], (0, 0, 2), True),
                ([("limit", 3), ("due", 2, 2), ("due", 1, 1)], (0, 0, 2), False),
                ([("closed", 1), ("begins", 1, 0)], (0, 1, 1), False),
                ([("closed", 1), ("begins", 1, 0)], (0, 0, 0), False)]:
            self.assertIs(keeps(task, plan, rules), right, (rules, plan))
            self.assertIs(keeps(task, plan, tuple(rules)), right)

    def test_against_the_words(self):
        chance = random.Random(60)
        for task in varied_tasks(61, 2, 5):
            hours = len(task.writes)
            for plan, _ in all_plans_by_words(hours):
                for many in (0, 1, 2, 4):
                    rules = random_rules(chance, task, many)
                    self.assertIs(keeps(task, plan, rules), kept_by_words(task, plan, rules))

    def test_twenty_and_more_rules(self):
        for kind in (list, tuple):
            rules = kind([("closed", 1)] * 19 + [("limit", 9)])
            self.assertIs(keeps(T, (0, 1, 0), rules), True)
            self.assertEqual(least_under(T, 3, rules), (10, (0, 1, 2)))
            more = kind(rules + kind([("limit", 9)]))
            self.assert_error(NoRules, (), keeps, T, (0, 1, 0), more)
            self.assert_error(NoRules, (), least_under, T, 3, more)


class WrongTest(Checks):

    def test_wrong_rules(self):
        wrong = [("limit",), ("limit", -1), ("limit", True), ("limit", None), ("limit", 1, 2), ("limit", "1"),
                 ("closed",), ("closed", 3), ("closed", -1), ("closed", False), ("closed", 1, 1), ("begins", 1),
                 ("begins", 1, 2), ("begins", 3, 0), ("begins", 1, -1), ("begins", 1, True), ("begins", True, 0),
                 ("begins", 1, 0, 0), ("due", 1), ("due", 2, 1), ("due", 0, 3), ("due", -1, 1), ("due", 0, True),
                 ("due", False, 1), ("due", 0, 1, 2), ("Limit", 1), ("", 1), ("open", 1), (b"limit", 1),
                 ("limit", (1,)),
                 (None, 1), (1, 1), ("limit", [1]), ["limit", 1], ["closed", 1], (("limit", 1),), (["limit"], 1), (),
                 "limit",
                 ({}, 0), ([], 0, 0), {"limit": 1}, None, ("due", None, None), ("begins", None, None)]
        for rule in wrong:
            self.assertFalse(rule_by_words(3, rule))
            for rules in ([rule], (rule,), [("limit", 9), rule], (rule, ("limit", 9))):
                self.assert_error(NoRules, (), keeps, T, (0, 0, 0), rules)
                self.assert_error(NoRules, (), least_under, T, 3, rules)

    def test_things_of_every_kind(self):
        for right, wrap in [(lambda thing: rules_by_words(3, thing), lambda thing: thing),
                            (lambda thing: rule_by_words(3, thing), lambda thing: [thing])]:
            self.assert_refused(NoRules, (), right, lambda thing: keeps(T, (0, 0, 0), wrap(thing)))
            self.assert_refused(NoRules, (), right, lambda thing: least_under(T, 3, wrap(thing)))
        for make in [lambda thing: (thing, 1), lambda thing: (thing, 1, 1), lambda thing: ("limit", thing),
                     lambda thing: ("closed", thing), lambda thing: ("begins", thing, 0),
                     lambda thing: ("begins", 1, thing), lambda thing: ("due", thing, 2),
                     lambda thing: ("due", 1, thing)]:
            self.assert_refused(NoRules, (), lambda thing: rule_by_words(3, make(thing)),
                                lambda thing: keeps(T, (0, 0, 0), [make(thing)]))
        self.assert_refused(NoPlan, (), lambda thing: plan_by_words(thing) and len(thing) == 3,
                            lambda thing: keeps(T, thing, []))
        self.assert_refused(NoNumber, (), is_from_1_to_30, lambda thing: least_under(T, thing, []))
        for rules in ({}, {("limit", 1): 0}, "", b"", None, range(0), 0, nested("list", 40, ("limit", 1))):
            self.assert_error(NoRules, (), keeps, T, (0, 0, 0), rules)
            self.assert_error(NoRules, (), least_under, T, 3, rules)

    def test_order_of_errors(self):
        for plan in ((0, 0), (0,) * 4, [0, 0, 0], (0, True, 0), None):
            self.assert_error(NoPlan, (), keeps, T, plan, None)
            self.assert_error(NoPlan, (), keeps, T, plan, [])
        for most in (0, 31, True, None):
            self.assert_error(NoNumber, (), least_under, T, most, None)
            self.assert_error(NoNumber, (), least_under, T, most, [])
        for thing in odd_things():
            if not plan_by_words(thing):
                self.assert_error(NoPlan, (), keeps, T, thing, thing)
            if not is_from_1_to_30(thing):
                self.assert_error(NoNumber, (), least_under, T, thing, thing)


class LeastUnderTest(Checks):

    def test_example_e08(self):
        self.assertEqual(least_under(T, 3, [("due", 2, 2)]), (11, (0, 0, 0)))

    def test_no_rules(self):
        for task in varied_tasks(62, 3, 5):
            for most in (1, 2, 30):
                for rules in ([], (), [("limit", 10 ** 9)], (("due", 0, 0),), [("closed", 0), ("begins", 0, 0)]):
                    self.assertEqual(least_under(task, most, rules), (least(task, most), least_plan(task, most)))

    def test_each_rule_alone(self):
        for task in varied_tasks(63, 2, 4):
            for most in (1, 2, 3, 5):
                for rule in all_rules(len(task.writes), sorted({price for row in task.writes for price in row} | {0})):
                    self.assertEqual(least_under(task, most, [rule]), least_under_by_words(task, most, [rule]))

    def test_against_all_plans(self):
        chance = random.Random(64)
        met = {True: 0, False: 0}
        for task in varied_tasks(65, 6, 7):
            for most in (1, 2, 3, 4, 30):
                for many in (2, 3, 6):
                    rules = random_rules(chance, task, many)
                    best = least_under_by_words(task, most, rules)
                    met[best is None] += 1
                    self.assertEqual(least_under(task, most, rules), best)
        self.assertTrue(min(met.values()) > 100)

    def test_due_rules_against_all_plans(self):
        chance = random.Random(66)
        # Where writing the eldest run is dear, due rules tell when it is written.
        for hours in (5, 7, 8):
            pairs = list(itertools.combinations_with_replacement(range(hours), 2))
            for _ in range(12):
                task = random_task(chance, hours, 9, chance.choice([0, 1]))
                dear = Task((tuple(price * 10 for price in task.writes[0]),) + task.writes[1:], task.looks)
                rules = [("due", *chance.choice(pairs)) for _ in range(chance.randint(1, 3))]
                for most in (2, 3, 30):
                    self.assertEqual(least_under(dear, most, rules), least_under_by_words(dear, most, rules))

    def test_none(self):
        for rules in ([("limit", 0)], [("closed", 1), ("begins", 1, 0)], [("closed", 2), ("due", 2, 2)],
                      [("begins", 1, 0), ("begins", 2, 1)], [("limit", 3), ("due", 2, 2)]):
            self.assertIsNone(least_under(T, 3, rules))
        self.assertIsNone(least_under(T, 1, [("closed", 1)]))
        self.assertIsNone(least_under(T, 2, [("closed", 1), ("closed", 2)]))
        self.assertEqual(least_under(T, 3, [("closed", 1), ("closed", 2)]), (10, (0, 1, 2)))
        top = even_task(30, 10 ** 9, 10 ** 9)
        self.assertIsNone(least_under(top, 30, [("limit", 10 ** 9 - 1)]))
        self.assertIsNone(least_under(top, 30, [("closed", 12), ("begins", 12, 3)]))
        self.assertEqual(least_under(top, 30, [("limit", 10 ** 9)]), (60 * 10 ** 9, (0,) * 30))

    def test_a_limit_that_one_plan_keeps(self):
        chance = random.Random(67)
        for hours in (2, 4, 6):
            for only, stands in chance.sample(all_plans_by_words(hours), 2 if hours == 2 else 12):
                writes = laid_out(hours, lambda a, m: chance.randint(1, 9) if only[m] == a else chance.randint(10, 20))
                task = Task(writes, laid_out(hours, lambda a, t: chance.randint(0, 9)))
                plans = [plan for plan, _ in all_plans_by_words(hours)]
                self.assertEqual([plan for plan in plans if keeps(task, plan, [("limit", 9)])], [only])
                width = max(map(len, stands))
                for most in (width, 30):
                    self.assertEqual(least_under(task, most, [("limit", 9)]), (cost_by_words(task, only, stands), only))
                if width > 1:
                    self.assertIsNone(least_under(task, width - 1, [("limit", 9)]))

    def test_thirty_hours(self):
        chance = random.Random(68)
        for most in (2, 3, 7, 30):
            task = random_task(chance, 30, 10 ** 9, 10 ** 8)
            limit = greatest_written(task, least_plan(task, most)) + 1
            rules = [("limit", limit), ("closed", 7), ("begins", 20, 13)]
            rules += [("due", 3, 6), ("due", 22, 25), ("due", 24, 29)]
            found = least_under(task, most, rules)
            looser = least_under(task, most, rules[1:])
            self.assertLessEqual(least(task, most), looser[0])
            for price, plan in [looser] + ([found] if found else []):
                self.assertTrue(is_plan(30, plan))
                self.assertLessEqual(widest(plan), most)
                self.assertEqual(cost(task, plan), price)
            self.assertIs(keeps(task, looser[1], rules[1:]), True)
            if found is not None:
                self.assertIs(keeps(task, found[1], rules), True)
                self.assertLessEqual(looser[0], found[0])
            # What the least plan does anyway changes nothing.
            told = [("begins", hour, begin) for hour, begin in enumerate(looser[1])]
            self.assertEqual(least_under(task, most, rules[1:] + told[15:]), looser)


if __name__ == "__main__":
    unittest.main()
