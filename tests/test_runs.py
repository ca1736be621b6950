import unittest

from joinshelf.errors import NoHour, NoKey, NoShelf
from joinshelf.feeds import Feed, value_at
from joinshelf.runs import is_shelf, look, run_of, run_sizes
from tests.things import (BIG, F, Checks, full_feed, is_int, nested, odd_things, rows_of_random_feeds, shelves_to)


def run_by_words(feed, first, last):
    versions = [(key, hour, value) for hour, batch in enumerate(feed.batches) for key, value in batch
                if first <= hour <= last]
    needed = []
    for bound in [last] + [hour for hour in feed.kept if first <= hour <= last]:
        for key in {version[0] for version in versions}:
            own = [version for version in versions if version[0] == key and version[1] <= bound]
            if own:
                needed.append(max(own, key=lambda version: version[1]))
    if first == 0:
        needed = [version for version in needed if version[2] is not None or any(
            other[0] == version[0] and other[1] < version[1] and other[2] is not None for other in needed)]
    return tuple(sorted(set(needed), key=lambda version: version[:2]))


def look_by_words(feed, shelf, hour, key):
    looked = 0
    for first, last in sorted(shelf, reverse=True):
        if first <= hour:
            looked += 1
            found = [version for version in run_by_words(feed, first, last) if version[0] == key and version[1] <= hour]
            if found:
                return (max(found, key=lambda version: version[1])[2], looked)
    return (None, looked)


def shelf_by_words(hours):
    def right(thing):
        if type(thing) is not tuple or not thing:
            return False
        behind = 0
        for run in thing:
            if type(run) is not tuple or len(run) != 2 or not is_int(run[0]) or not is_int(run[1]):
                return False
            if run[0] != behind or run[1] < run[0]:
                return False
            behind = run[1] + 1
        return behind <= hours
    return right


class RunTest(Checks):

    def test_example_e01(self):
        self.assertEqual(run_of(F, 0, 2), ((1, 0, 5), (1, 1, None), (2, 0, 7), (2, 2, 8), (3, 2, 1)))
        self.assertEqual(run_sizes(F), ((2, 3, 5), (1, 3), (2,)))

    def test_runs_that_begin_with_0(self):
        self.assertEqual(run_of(F, 0, 0), ((1, 0, 5), (2, 0, 7)))
        self.assertEqual(run_of(F, 0, 1), ((1, 0, 5), (1, 1, None), (2, 0, 7)))
        plain = Feed(F.batches, ())
        self.assertEqual(run_of(plain, 0, 1), ((2, 0, 7),))
        self.assertEqual(run_of(plain, 0, 2), ((2, 2, 8), (3, 2, 1)))

    def test_struck_keys_that_lie_on_struck_ones(self):
        batches = (((7, None),), ((7, None),), ((7, 3),), ((7, None),), ((7, None),))
        self.assertEqual(run_of(Feed(batches, (0, 1)), 0, 1), ())
        self.assertEqual(run_of(Feed(batches, (0, 1, 2, 3)), 0, 4), ((7, 2, 3), (7, 3, None), (7, 4, None)))
        self.assertEqual(run_of(Feed(batches, (2,)), 0, 4), ((7, 2, 3), (7, 4, None)))
        self.assertEqual(run_of(Feed(batches, (3,)), 0, 4), ())
        self.assertEqual(run_of(Feed(batches, (1,)), 0, 3), ())
        self.assertEqual(run_of(Feed(batches, (1,)), 0, 2), ((7, 2, 3),))

    def test_runs_that_begin_later(self):
        self.assertEqual(run_of(F, 1, 1), ((1, 1, None),))
        self.assertEqual(run_of(F, 1, 2), ((1, 1, None), (2, 2, 8), (3, 2, 1)))
        self.assertEqual(run_of(F, 2, 2), ((2, 2, 8), (3, 2, 1)))
        batches = ((), ((7, None),), ((7, None),), ((7, 3),), ((7, None),))
        self.assertEqual(run_of(Feed(batches, (1,)), 1, 2), ((7, 1, None), (7, 2, None)))
        self.assertEqual(run_of(Feed(batches, ()), 1, 4), ((7, 4, None),))

    def test_kept_hours_at_the_first_and_last_hour(self):
        batches = (((7, 1),), ((7, 2),), ((7, 3),))
        self.assertEqual(run_of(Feed(batches, (0,)), 0, 2), ((7, 0, 1), (7, 2, 3)))
        self.assertEqual(run_of(Feed(batches, (2,)), 0, 2), ((7, 2, 3),))
        self.assertEqual(run_of(Feed(batches, (0,)), 1, 2), ((7, 2, 3),))
        self.assertEqual(run_of(Feed(batches, (2,)), 0, 1), ((7, 1, 2),))
        self.assertEqual(run_of(Feed(batches, (1,)), 1, 2), ((7, 1, 2), (7, 2, 3)))
        self.assertEqual(run_of(Feed(batches, ()), 0, 2), ((7, 2, 3),))

    def test_a_kept_hour_without_a_batch(self):
        feed = Feed((((7, 1),), (), ((7, 3),)), (1,))
        self.assertEqual(run_of(feed, 0, 2), ((7, 0, 1), (7, 2, 3)))
        self.assertEqual(run_of(feed, 1, 2), ((7, 2, 3),))
        self.assertEqual(run_of(feed, 1, 1), ())

    def test_against_the_words(self):
        feeds = list(rows_of_random_feeds(2, 150, 8, 4, 4)) + [full_feed(12, (0, 5, 11)), Feed(((),), ())]
        for feed in feeds:
            hours = len(feed.batches)
            rows = [[run_by_words(feed, first, last) for last in range(first, hours)] for first in range(hours)]
            for first in range(hours):
                for last in range(first, hours):
                    self.assertEqual(run_of(feed, first, last), rows[first][last - first])
            self.assertEqual(run_sizes(feed), tuple(tuple(len(run) for run in row) for row in rows))

    def test_one_and_forty_hours(self):
        self.assertEqual(run_sizes(Feed((((0, 1), (999, None)),), ())), ((1,),))
        self.assertEqual(run_sizes(Feed((((0, 1), (999, 2)),), (0,))), ((2,),))
        feed = full_feed(40, tuple(range(0, 40, 3)))
        sizes = run_sizes(feed)
        self.assertEqual([len(row) for row in sizes], list(range(40, 0, -1)))
        for first, last in [(0, 39), (0, 0), (39, 39), (17, 30), (1, 39)]:
            run = run_by_words(feed, first, last)
            self.assertEqual(run_of(feed, first, last), run)
            self.assertEqual(sizes[first][last - first], len(run))

    def test_wrong_hours(self):
        for first, last in [(-1, 0), (3, 3), (0, 3), (0, -1), (2, 1), (1, 0), (True, 1), (0, True), (False, 2),
                            (0, None), ("0", 1), (0, [1]), (BIG, BIG), (0, BIG), (-BIG, 1), (None, None), (3, 0)]:
            self.assert_error(NoHour, (), run_of, F, first, last)
        self.assert_refused(NoHour, (), lambda thing: is_int(thing) and 0 <= thing <= 2,
                            lambda thing: run_of(F, thing, 2))
        self.assert_refused(NoHour, (), lambda thing: is_int(thing) and 1 <= thing <= 2,
                            lambda thing: run_of(F, 1, thing))


class ShelfTest(Checks):

    def test_right_ones(self):
        for shelf in [((0, 0),), ((0, 1),), ((0, 2),), ((0, 0), (1, 1)), ((0, 0), (1, 2)), ((0, 1), (2, 2)),
                      ((0, 0), (1, 1), (2, 2))]:
            self.assertIs(is_shelf(F, shelf), True, shelf)
        for last in range(3):
            for shelf in shelves_to(last):
                self.assertIs(is_shelf(F, shelf), True, shelf)

    def test_one_run_and_as_many_runs_as_hours(self):
        feed = full_feed(40, ())
        self.assertIs(is_shelf(feed, ((0, 39),)), True)
        self.assertIs(is_shelf(feed, tuple((hour, hour) for hour in range(40))), True)
        self.assertIs(is_shelf(feed, ((0, 40),)), False)
        self.assertIs(is_shelf(feed, tuple((hour, hour) for hour in range(41))), False)

    def test_wrong_ones(self):
        for thing in [(), [], [(0, 0)], ([0, 0],), ((1, 1),), ((0, 3),), ((0, -1),), ((0, 0), (2, 2)), ((0, 1), (1, 2)),
                      ((0, 0), (1, 0)), ((0, 0), (1, 3)), ((0, 0), (1, 1), (2, 2), (3, 3)), ((0, 0), None), ((0, 0, 0),),
                      ((0,),), ((False, 0),), ((0, True),), ((0, False),), ((0, 0), (True, 1)), ((0, None),),
                      (("0", "1"),), ((0, BIG),), ((-1, 0),), ((1, 2), (0, 0)), (0, 0), None, F, "00", {0: 0}]:
            self.assertIs(is_shelf(F, thing), False, thing)

    def test_things_of_every_kind(self):
        right = shelf_by_words(3)
        self.assert_judged(right, lambda thing: is_shelf(F, thing))
        self.assert_judged(lambda thing: right((thing,)), lambda thing: is_shelf(F, (thing,)))
        self.assert_judged(lambda thing: right(((0, 0), thing)), lambda thing: is_shelf(F, ((0, 0), thing)))
        self.assert_judged(lambda thing: right(((thing, 1),)), lambda thing: is_shelf(F, ((thing, 1),)))
        self.assert_judged(lambda thing: right(((0, thing),)), lambda thing: is_shelf(F, ((0, thing),)))


class LookTest(Checks):

    def test_example_e02(self):
        self.assertEqual(look(F, ((0, 1), (2, 2)), 2, 1), (None, 2))
        self.assertEqual(look(F, ((0, 1), (2, 2)), 0, 1), (5, 1))

    def test_how_many_are_looked_into(self):
        shelf = ((0, 0), (1, 1), (2, 2))
        self.assertEqual(look(F, shelf, 2, 3), (1, 1))
        self.assertEqual(look(F, shelf, 2, 1), (None, 2))
        self.assertEqual(look(F, shelf, 2, 4), (None, 3))
        self.assertEqual(look(F, shelf, 0, 4), (None, 1))
        self.assertEqual(look(F, ((0, 2),), 0, 2), (7, 1))
        self.assertEqual(look(F, ((0, 0), (1, 2)), 0, 2), (7, 1))
        self.assertEqual(look(F, ((0, 0), (1, 2)), 2, 1), (None, 1))
        self.assertEqual(look(F, ((0, 2),), 2, 1), (None, 1))
        self.assertEqual(look(Feed(F.batches, ()), ((0, 2),), 2, 1), (None, 1))
        self.assertEqual(look(F, ((0, 1),), 1, 2), (7, 1))

    def test_what_is_left_out_of_the_eldest_run(self):
        feed = Feed((((7, 1),), ((7, None),), ()), ())
        self.assertEqual(look(feed, ((0, 1), (2, 2)), 2, 7), (None, 2))
        self.assertEqual(look(feed, ((0, 0), (1, 1), (2, 2)), 2, 7), (None, 2))
        self.assertEqual(look(feed, ((0, 0), (1, 2)), 2, 7), (None, 1))

    def test_against_the_words(self):
        for feed in rows_of_random_feeds(3, 25, 5, 3, 3):
            for last in range(len(feed.batches)):
                for shelf in shelves_to(last):
                    for hour in [last] + [hour for hour in feed.kept if hour < last]:
                        for key in range(4):
                            found = look(feed, shelf, hour, key)
                            self.assertEqual(found, look_by_words(feed, shelf, hour, key))
                            self.assertEqual(found[0], value_at(feed, hour, key))

    def test_forty_hours(self):
        feed = full_feed(40, (0, 20, 39))
        for shelf in [((0, 39),), tuple((hour, hour) for hour in range(40)), ((0, 9), (10, 30), (31, 39))]:
            for hour in feed.kept:
                for key in [0, 13, 37, 500, 999]:
                    found = look(feed, shelf, hour, key)
                    self.assertEqual(found, look_by_words(feed, shelf, hour, key))
                    self.assertEqual(found[0], value_at(feed, hour, key))

    def test_hours_that_are_not_askable(self):
        feed = Feed(((), (), (), ()), (1, 3))
        self.assertEqual(look(feed, ((0, 2),), 1, 0), (None, 1))
        self.assertEqual(look(feed, ((0, 2),), 2, 0), (None, 1))
        for hour in [0, 3, -1, 4, True, False, None, "1", (1,), [1], BIG]:
            self.assert_error(NoHour, (), look, feed, ((0, 2),), hour, 0)
        self.assert_refused(NoHour, (), lambda thing: is_int(thing) and thing in (1, 2),
                            lambda thing: look(feed, ((0, 2),), thing, 0))

    def test_wrong_shelves_and_keys(self):
        right = shelf_by_words(3)
        for thing in odd_things():
            if not right(thing):
                self.assert_error(NoShelf, (), look, F, thing, 0, 0)
        self.assert_refused(NoKey, (), lambda thing: is_int(thing) and 0 <= thing <= 999,
                            lambda thing: look(F, ((0, 2),), 2, thing))
        for key in [0, 999]:
            self.assertEqual(look(F, ((0, 2),), 2, key), (None, 1))
        for key in [-1, 1000, True, None]:
            self.assert_error(NoKey, (), look, F, ((0, 2),), 2, key)

    def test_order_of_errors(self):
        self.assert_error(NoShelf, (), look, F, [(0, 2)], 9, 1000)
        self.assert_error(NoShelf, (), look, F, nested("tuple", 40, 0), True, True)
        self.assert_error(NoHour, (), look, F, ((0, 2),), 1, 1000)
        self.assert_error(NoHour, (), look, F, ((0, 2),), nested("dict", 40, 0), nested("list", 40, 0))
        self.assert_error(NoKey, (), look, F, ((0, 2),), 0, 1000)


if __name__ == "__main__":
    unittest.main()
