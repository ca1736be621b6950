import unittest

from joinshelf.errors import BadFeed, NoHour, NoKey
from joinshelf.feeds import Feed, is_batch, sight, value_at
from tests.things import BIG, F, Checks, full_feed, is_int, nested, odd_things, rows_of_random_feeds

SIXTY = tuple((key, key) for key in range(60))
SIXTY_ONE = tuple((key, key) for key in range(61))


def batch_by_words(thing):
    if type(thing) is not tuple or len(thing) > 60:
        return False
    for pair in thing:
        if type(pair) is not tuple or len(pair) != 2 or not is_int(pair[0]) or not 0 <= pair[0] <= 999:
            return False
        if pair[1] is not None and not is_int(pair[1]):
            return False
    keys = [pair[0] for pair in thing]
    return keys == sorted(set(keys))


def sight_by_words(feed, hour):
    versions = [(at, key, value) for at, batch in enumerate(feed.batches) for key, value in batch if at <= hour]
    values = {}
    for key in {version[1] for version in versions}:
        value = max((version for version in versions if version[1] == key), key=lambda version: version[0])[2]
        if value is not None:
            values[key] = value
    return values


class BatchTest(Checks):

    def test_right_ones(self):
        for batch in [(), ((0, 0),), ((999, None),), ((0, 1), (999, -1)), ((5, BIG), (6, -BIG)), SIXTY,
                      tuple((key, None) for key in range(940, 1000))]:
            self.assertIs(is_batch(batch), True)

    def test_wrong_ones(self):
        for thing in [SIXTY_ONE, ((-1, 0),), ((1000, 0),), ((1, 0), (1, 0)), ((2, 0), (1, 0)), ((1, 0), (1, None)),
                      ((True, 0),), ((0, False),), ((0, "0"),), ((0,),), ((0, 0, 0),), ([0, 0],), [(0, 0)],
                      ((None, 0),), (("1", 0),), ((0, (0,)),), ((0, 0), None), ((0, 0), 5), (((0, 0), 0),),
                      ((BIG, 0),), ((-BIG, 0),), {0: 0}, "", b"", 0, None, True, F, SIXTY + ("x",)]:
            self.assertIs(is_batch(thing), False, thing)

    def test_things_of_every_kind(self):
        self.assert_judged(batch_by_words, is_batch)
        self.assert_judged(lambda thing: False, lambda thing: is_batch((thing,)) and not batch_by_words((thing,)))
        self.assert_judged(is_int_from(0, 999), lambda thing: is_batch(((thing, 0),)))
        self.assert_judged(lambda thing: thing is None or is_int(thing), lambda thing: is_batch(((0, thing),)))


def is_int_from(low, high):
    return lambda thing: is_int(thing) and low <= thing <= high


class FeedTest(Checks):

    def test_attributes(self):
        self.assertEqual(F.batches, (((1, 5), (2, 7)), ((1, None),), ((2, 8), (3, 1))))
        self.assertEqual(F.kept, (0,))
        self.assertIs(type(F.batches), tuple)
        self.assertIs(type(F.kept), tuple)

    def test_fewest_and_most(self):
        self.assertEqual(Feed(((),), ()).batches, ((),))
        self.assertEqual(len(Feed((SIXTY,) * 40, tuple(range(40))).batches), 40)
        self.assertEqual(Feed((SIXTY,), (0,)).kept, (0,))
        self.assert_error(BadFeed, ("batches", -1), Feed, (), ())
        self.assert_error(BadFeed, ("batches", -1), Feed, ((),) * 41, ())

    def test_first_wrong_batch(self):
        self.assert_error(BadFeed, ("batches", 0), Feed, (SIXTY_ONE,), ())
        self.assert_error(BadFeed, ("batches", 1), Feed, ((), [], None), ())
        self.assert_error(BadFeed, ("batches", 39), Feed, ((),) * 39 + (((1, True),),), ())

    def test_wrong_kept_hours(self):
        three = ((), (), ())
        for kept in [(3,), (-1,), (0, 0), (1, 0), (True,), (False,), (0, True), [0], None, (None,), ("0",), range(2),
                     (0, 1, 2, 3), (0.5,), ((0,),), {0: 0}, 0, (BIG,), ((),)]:
            self.assert_error(BadFeed, ("kept", -1), Feed, three, kept)
        for kept in [(), (0,), (2,), (0, 2), (0, 1, 2)]:
            self.assertEqual(Feed(three, kept).kept, kept)

    def test_order_of_errors(self):
        self.assert_error(BadFeed, ("batches", -1), Feed, [()], [0])
        self.assert_error(BadFeed, ("batches", -1), Feed, ([],) * 41, None)
        self.assert_error(BadFeed, ("batches", 1), Feed, ((), SIXTY_ONE, 7), (9,))

    def test_things_of_every_kind(self):
        for thing in odd_things():
            if type(thing) is tuple and 1 <= len(thing) <= 40:
                wrong = [hour for hour, batch in enumerate(thing) if not batch_by_words(batch)]
                if wrong:
                    self.assert_error(BadFeed, ("batches", wrong[0]), Feed, thing, ())
                else:
                    self.assertEqual(Feed(thing, ()).batches, thing)
            else:
                self.assert_error(BadFeed, ("batches", -1), Feed, thing, ())
        self.assert_refused(BadFeed, ("batches", 1), batch_by_words, lambda thing: Feed(((), thing), ()))
        right = [(), (0,), (1,), (0, 1)]
        self.assert_refused(
            BadFeed, ("kept", -1),
            lambda thing: type(thing) is tuple and thing in right and all(is_int(hour) for hour in thing),
            lambda thing: Feed(((), ()), thing))

    def test_equality(self):
        batches = (((1, 5),), ())
        self.assertTrue(Feed(batches, (1,)) == Feed((((1, 5),), ()), (1,)))
        self.assertFalse(Feed(batches, (1,)) != Feed(batches, (1,)))
        self.assertFalse(Feed(batches, (1,)) == Feed(batches, (0,)))
        self.assertFalse(Feed(batches, (1,)) == Feed((((1, 6),), ()), (1,)))
        self.assertTrue(Feed(batches, (1,)) != Feed(batches, ()))

    def test_equal_to_nothing_else(self):
        for thing in odd_things():
            self.assertIs(F == thing, thing is F)
        self.assertFalse(F == (F.batches, F.kept))


class SightTest(Checks):

    def test_example_e01(self):
        self.assertEqual(sight(F, 1), {2: 7})

    def test_each_hour(self):
        self.assertEqual(sight(F, 0), {1: 5, 2: 7})
        self.assertEqual(sight(F, 2), {2: 8, 3: 1})
        self.assertEqual([value_at(F, hour, 1) for hour in range(3)], [5, None, None])
        self.assertEqual([value_at(F, hour, 2) for hour in range(3)], [7, 7, 8])
        self.assertEqual([value_at(F, hour, 3) for hour in range(3)], [None, None, 1])
        self.assertEqual(value_at(F, 0, 999), None)
        self.assertEqual(value_at(F, 0, 0), None)

    def test_keys_at_the_edges(self):
        feed = Feed((((0, -4), (999, 4)), ((0, None), (999, None)), ((0, 0),)), ())
        self.assertEqual([sight(feed, hour) for hour in range(3)], [{0: -4, 999: 4}, {}, {0: 0}])
        self.assertEqual([value_at(feed, hour, 0) for hour in range(3)], [-4, None, 0])
        self.assertEqual([value_at(feed, hour, 999) for hour in range(3)], [4, None, None])

    def test_against_the_words(self):
        feeds = list(rows_of_random_feeds(1, 60, 8, 6, 6)) + [full_feed(40, ()), full_feed(1, (0,))]
        for feed in feeds:
            for hour in range(len(feed.batches)):
                seen = sight_by_words(feed, hour)
                self.assertEqual(sight(feed, hour), seen)
                for key in [0, 1, 2, 3, 4, 5, 500, 999]:
                    self.assertEqual(value_at(feed, hour, key), seen.get(key))

    def test_each_dict_is_new(self):
        sight(F, 0).clear()
        self.assertEqual(sight(F, 0), {1: 5, 2: 7})
        self.assertIsNot(sight(F, 0), sight(F, 0))

    def test_wrong_hours(self):
        for hour in [-1, 3, True, False, None, "0", [0], (0,), BIG, -BIG, F]:
            self.assert_error(NoHour, (), sight, F, hour)
            self.assert_error(NoHour, (), value_at, F, hour, 1)
        self.assert_refused(NoHour, (), is_int_from(0, 2), lambda thing: sight(F, thing))
        self.assert_refused(NoHour, (), is_int_from(0, 2), lambda thing: value_at(F, thing, 1))
        self.assertEqual(sight(full_feed(40, ()), 39), sight_by_words(full_feed(40, ()), 39))
        self.assert_error(NoHour, (), sight, full_feed(40, ()), 40)

    def test_wrong_keys(self):
        for key in [-1, 1000, True, False, None, "1", (1,), BIG]:
            self.assert_error(NoKey, (), value_at, F, 0, key)
        self.assert_refused(NoKey, (), is_int_from(0, 999), lambda thing: value_at(F, 0, thing))

    def test_order_of_errors(self):
        self.assert_error(NoHour, (), value_at, F, 3, 1000)
        self.assert_error(NoHour, (), value_at, F, nested("list", 40, 0), nested("tuple", 40, 0))


if __name__ == "__main__":
    unittest.main()
