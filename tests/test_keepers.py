import itertools
import random
import unittest
from fractions import Fraction

from joinshelf.burdens import by_credits, least_writing, writing
from joinshelf.errors import NoAnswer, NoNumber, NoSizes, TooMany
from joinshelf.keepers import led, worst
from joinshelf.plans import shelves, widest
from tests.test_burdens import random_sizes, sizes_by_words, written_sizes
from tests.test_feeds import is_int_from
from tests.test_leasts import is_from_1_to_30
from tests.things import BIG, Checks, all_plans_by_words, fitting_plans, is_int, nested, odd_things


def none_stay(sizes, shelf):
    return 0


def all_that_may(most):
    return lambda sizes, shelf: min(len(shelf), most - 1)


def newest_goes(sizes, shelf):
    """All runs stay but the youngest one."""
    return max(0, len(shelf) - 1)


def greater_stay(sizes, shelf):
    """The runs stay that are greater than all behind them and the batch together, a keeper that asks the sizes."""
    stay = 0
    for first, last in shelf:
        if sum(sizes[first:last + 1]) <= sum(sizes[last + 1:]):
            break
        stay += 1
    return stay


def narrow(most, keeper):
    return lambda sizes, shelf: min(most - 1, keeper(sizes, shelf))


def of_credits(most):
    """The keeper by credits, as a keeper that is asked."""
    def keeper(sizes, shelf):
        begin = by_credits(sizes, most)[-1]
        return len([run for run in shelf if run[0] < begin])
    return keeper


def leading_to(plan):
    """A keeper that leads to the plan."""
    return lambda sizes, shelf: len([run for run in shelf if run[0] < plan[len(sizes) - 1]])


def answering(answers):
    """A keeper that gives these answers, one at each hour."""
    return lambda sizes, shelf: answers[len(sizes) - 1]


def rows_by_words(hours, size):
    return [row for many in range(1, hours + 1) for row in itertools.product(range(1, size + 1), repeat=many)]


def worst_by_words(most, keeper, hours, size):
    told = {many: [plan for plan, _ in fitting_plans(many, most)] for many in range(1, hours + 1)}
    found = None
    for row in rows_by_words(hours, size):
        best = min(written_sizes(row, plan) for plan in told[len(row)])
        ratio = Fraction(written_sizes(row, led(row, most, keeper)), best)
        if found is None or ratio > found[0]:
            found = (ratio, row)
    return ((found[0].numerator, found[0].denominator), found[1])


class LedTest(Checks):

    def test_none_and_all_and_some_stay(self):
        self.assertEqual(led((1, 2, 1), 3, none_stay), (0, 0, 0))
        self.assertEqual(led((1, 2, 1), 3, all_that_may(3)), (0, 1, 2))
        self.assertEqual(led((1, 2, 1), 2, all_that_may(2)), (0, 1, 1))
        self.assertEqual(led((1, 2, 1), 1, all_that_may(1)), (0, 0, 0))
        self.assertEqual(led((1, 2, 1), 3, newest_goes), (0, 0, 0))
        self.assertEqual(led((9, 2, 1, 1, 4), 4, greater_stay), (0, 1, 2, 1, 1))
        self.assertEqual(led((9, 2, 1, 1, 5), 4, greater_stay), (0, 1, 2, 1, 0))
        self.assertEqual(led((7,), 1, none_stay), (0,))

    def test_each_plan(self):
        for hours in range(1, 7):
            sizes = tuple(range(1, hours + 1))
            for plan, stands in all_plans_by_words(hours):
                most = max(map(len, stands))
                self.assertEqual(led(sizes, most, leading_to(plan)), plan)
                self.assertEqual(led(sizes, 30, leading_to(plan)), plan)
                if most > 1:
                    at = [len(begins) for begins in stands].index(most)
                    self.assert_error(NoAnswer, (at,), led, sizes, most - 1, leading_to(plan))

    def test_what_a_keeper_is_told(self):
        chance = random.Random(110)
        for plan in [(0, 1, 2, 1, 1, 5), (0, 0, 0), (0, 1, 2, 3), (0,)]:
            sizes = random_sizes(chance, len(plan), 9)
            told = []

            def keeper(*things):
                told.append(things)
                return leading_to(plan)(*things)

            self.assertEqual(led(sizes, 4, keeper), plan)
            shelf_ahead = [(), *shelves(plan)[:-1]]
            self.assertEqual(told, [(sizes[:hour + 1], shelf_ahead[hour]) for hour in range(len(plan))])
            for row, shelf in told:
                self.assertIs(type(row), tuple)
                self.assertIs(type(shelf), tuple)
                self.assertTrue(all(type(run) is tuple for run in shelf))

    def test_by_credits(self):
        chance = random.Random(111)
        for hours in (1, 2, 5, 12, 40):
            sizes = random_sizes(chance, hours, 20)
            for most in (1, 2, 3, 30):
                self.assertEqual(led(sizes, most, of_credits(most)), by_credits(sizes, most))

    def test_forty_hours(self):
        for most in (1, 2, 30):
            self.assertEqual(led((1,) * 40, most, none_stay), (0,) * 40)
            plan = led((10 ** 6,) * 40, most, all_that_may(most))
            self.assertEqual(plan, tuple(min(hour, most - 1) for hour in range(40)))
            self.assertEqual(widest(plan), most)

    def test_wrong_answers(self):
        # Ahead of the third hour two runs stand.
        for answer in [-1, 3, True, False, None, "1", (1,), [0], b"1", BIG, -BIG, nested("tuple", 40, 1)]:
            self.assert_error(NoAnswer, (2,), led, (1, 1, 1, 1), 30, answering((0, 1, answer, None)))
        for answer in (0, 1, 2):
            self.assertEqual(led((1, 1, 1), 3, answering((0, 1, answer))), (0, 1, answer))
        self.assertEqual(led((1, 1, 1), 2, answering((0, 1, 1))), (0, 1, 1))
        self.assert_error(NoAnswer, (2,), led, (1, 1, 1), 2, answering((0, 1, 2)))
        self.assert_error(NoAnswer, (1,), led, (1, 1, 1), 1, answering((0, 1, 0)))
        for answer in [1, -1, True, False, None]:
            self.assert_error(NoAnswer, (0,), led, (1, 1, 1), 30, answering((answer, None, None)))
        self.assert_refused(NoAnswer, (2,), is_int_from(0, 2),
                            lambda thing: led((1, 1, 1), 30, answering((0, 1, thing))))
        self.assert_refused(NoAnswer, (39,), is_int_from(0, 4),
                            lambda thing: led((1,) * 40, 5, answering((*range(5), *(4,) * 34, thing))))

    def test_errors_of_a_keeper_go_on(self):
        class Own(Exception):
            pass

        def fails(sizes, shelf):
            if len(sizes) == 3:
                raise Own()
            return 0

        self.assertEqual(led((1, 1), 2, fails), (0, 0))
        with self.assertRaises(Own):
            led((1, 1, 1), 2, fails)
        with self.assertRaises(Own):
            worst(2, fails, 3, 1)
        self.assertEqual(worst(1, fails, 2, 6), ((1, 1), (1,)))

    def test_wrong_sizes_and_numbers(self):
        self.assert_refused(NoSizes, (), sizes_by_words, lambda thing: led(thing, 2, none_stay))
        self.assert_refused(NoNumber, (), is_from_1_to_30, lambda thing: led((1, 2), thing, none_stay))
        asked = []
        for sizes, most, error in [((0,), 0, NoSizes), ([1], 2, NoSizes), ((), 31, NoSizes), ((1,), 31, NoNumber),
                                   ((1,), True, NoNumber), ((1,) * 41, 1, NoSizes), ((1,), 0, NoNumber)]:
            self.assert_error(error, (), led, sizes, most, lambda *things: asked.append(things))
        self.assertEqual(asked, [])


class WorstTest(Checks):

    def test_by_hand(self):
        # Rows of 1 cost as little as can be; 1 1 costs 3 in the place of 2.
        self.assertEqual(worst(2, none_stay, 1, 6), ((1, 1), (1,)))
        self.assertEqual(worst(2, none_stay, 2, 1), ((3, 2), (1, 1)))
        self.assertEqual(worst(2, none_stay, 2, 2), ((5, 3), (2, 1)))
        self.assertEqual(worst(2, none_stay, 2, 6), ((13, 7), (6, 1)))
        self.assertEqual(worst(1, none_stay, 4, 5), ((1, 1), (1,)))
        self.assertEqual(worst(30, all_that_may(30), 8, 1), ((1, 1), (1,)))

    def test_against_all_rows(self):
        for hours, size in [(1, 1), (1, 6), (2, 6), (3, 4), (4, 3), (5, 2), (6, 2), (7, 1), (8, 1)]:
            for most in (1, 2, 3, 30):
                for keeper in (none_stay, all_that_may(most), narrow(most, newest_goes), narrow(most, greater_stay),
                               of_credits(most)):
                    self.assertEqual(worst(most, keeper, hours, size), worst_by_words(most, keeper, hours, size))

    def test_by_credits_is_never_too_bad(self):
        for most in (1, 2, 3, 4):
            (top, bottom), row = worst(most, of_credits(most), 6, 3)
            self.assertLessEqual(Fraction(top, bottom), most)
            self.assertEqual(Fraction(top, bottom),
                             Fraction(writing(row, by_credits(row, most)), least_writing(row, most)))

    def test_rows_that_are_asked(self):
        sizes_asked = []

        def keeper(sizes, shelf):
            sizes_asked.append(sizes)
            return 0

        worst(2, keeper, 3, 2)
        self.assertEqual(set(sizes_asked), set(rows_by_words(3, 2)))

    def test_two_thousand_rows_and_more(self):
        for hours in range(1, 9):
            for size in range(1, 7):
                asked = []

                def keeper(sizes, shelf):
                    asked.append(sizes)
                    return 0

                rows = sum(size ** many for many in range(1, hours + 1))
                if rows > 2000:
                    self.assert_error(TooMany, (2000,), worst, 2, keeper, hours, size)
                    self.assertEqual(asked, [])
                elif rows > 1000:
                    (top, bottom), row = worst(2, keeper, hours, size)
                    self.assertGreater(top, bottom)
                    self.assertEqual(len(row), hours)

    def test_a_keeper_that_fails_in_some_row(self):
        for failing in [(1,), (2,), (1, 1), (2, 1), (1, 2, 2), (2, 2, 2)]:
            def keeper(sizes, shelf):
                return None if sizes == failing else 0

            self.assert_error(NoAnswer, (len(failing) - 1,), worst, 3, keeper, 3, 2)
            if len(failing) > 1:
                worst(3, keeper, len(failing) - 1, 2)

        # The row 2 comes ahead of the row 1 1, which fails later and otherwise.
        def twice(sizes, shelf):
            return {(2,): 1, (1, 1): None}.get(sizes, 0)

        self.assert_error(NoAnswer, (0,), worst, 3, twice, 2, 2)
        for most in (1, 2, 3):
            self.assert_error(NoAnswer, (most,), worst, most, lambda sizes, shelf: len(shelf), 8, 1)

    def test_wrong_numbers(self):
        self.assert_refused(NoNumber, (), is_from_1_to_30, lambda thing: worst(thing, none_stay, 2, 2))
        self.assert_refused(NoNumber, (), is_int_from(1, 8), lambda thing: worst(2, none_stay, thing, 1))
        self.assert_refused(NoNumber, (), is_int_from(1, 6), lambda thing: worst(2, none_stay, 2, thing))
        for most, hours, size in [(0, 2, 2), (31, 2, 2), (2, 0, 2), (2, 9, 1), (2, 2, 0), (2, 1, 7), (2, 9, 7),
                                  (0, 8, 6), (31, 8, 6), (2, 9, 6), (2, 8, 7), (True, 8, 6), (2, True, 6),
                                  (2, 8, True), (None, None, None)]:
            # All of NoNumber come ahead of TooMany, and of what the keeper answers.
            self.assert_error(NoNumber, (), worst, most, lambda sizes, shelf: None, hours, size)
        self.assert_error(TooMany, (2000,), worst, 2, lambda sizes, shelf: None, 8, 6)
        for thing in odd_things():
            if not is_int(thing):
                self.assert_error(NoNumber, (), worst, thing, none_stay, thing, thing)


if __name__ == "__main__":
    unittest.main()
