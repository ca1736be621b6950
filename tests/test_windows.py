import itertools
import random
import unittest

from joinshelf.errors import NoTable, TooMany
from joinshelf.feeds import Feed
from joinshelf.windows import comes_next, feed_of, is_table, windows, windows_bar
from tests.things import BIG, F, Checks, full_feed, is_int, laid_out, nested, rows_of_random_feeds


def table_by_words(thing):
    if type(thing) is not tuple or not 1 <= len(thing) <= 12:
        return False
    for first, row in enumerate(thing):
        if type(row) is not tuple or len(row) != len(thing) - first:
            return False
        if not all(is_int(entry) and 0 <= entry <= 1000 for entry in row):
            return False
    return True


def keys_of(feed, hour):
    return {key for key, _ in feed.batches[hour]}


def windows_by_words(feed):
    def entry(a, m):
        return len(set().union(*[keys_of(feed, hour) for hour in range(a, m + 1)]))
    return laid_out(len(feed.batches), entry)


def next_by_words(feed):
    def entry(a, m):
        between = set().union(*[keys_of(feed, hour) for hour in range(a + 1, m)])
        return 0 if m == a else len((keys_of(feed, a) & keys_of(feed, m)) - between)
    return laid_out(len(feed.batches), entry)


def backs_by_words(table):
    hours = range(len(table))
    entries = {(a, m): table[a][m - a] for a in hours for m in hours if m >= a}
    return {(a, m): entries[a, m - 1] + entries[a + 1, m] - entries[a, m] - entries.get((a + 1, m - 1), 0)
            for a, m in entries if m > a}


def bar_by_words(table):
    hours = range(len(table))
    backs = backs_by_words(table)
    bars = [("size", a) for a in hours if table[a][0] > 60]
    bars += [("back", a, m) for a, m in sorted(backs) if backs[a, m] < 0]
    bars += [("on", a) for a in hours if sum(backs[pair] for pair in backs if pair[0] == a) > table[a][0]]
    bars += [("from", m) for m in hours if sum(backs[pair] for pair in backs if pair[1] == m) > table[m][0]]
    return bars


class TableTest(Checks):

    def test_right_ones(self):
        for table in [((0,),), ((1000,),), ((0, 1000), (1000,)), laid_out(12, lambda a, m: 1000),
                      laid_out(12, lambda a, m: 0), ((1, 2, 3), (4, 5), (6,))]:
            self.assertIs(is_table(table), True)

    def test_wrong_ones(self):
        for thing in [(), laid_out(13, lambda a, m: 0), ((1001,),), ((-1,),), ((0,), (0,)), ((0, 0), (0, 0)), ((0, 0),),
                      ((0,), (0, 0)), ((),), ((True,),), ((0, False), (0,)), [(0,)], ([0],), ((None,),), (("0",),),
                      ((0, 0), [0]), ((0, 0), None), ((0, 1001), (0,)), ((0, 0), (-1,)), ((BIG,),), (((0,),),), 0, None,
                      {0: 0}, F, "0", b"0"]:
            self.assertIs(is_table(thing), False, thing)

    def test_things_of_every_kind(self):
        self.assert_judged(table_by_words, is_table)
        self.assert_judged(lambda thing: table_by_words((thing,)), lambda thing: is_table((thing,)))
        self.assert_judged(lambda thing: table_by_words(((0, 0), thing)), lambda thing: is_table(((0, 0), thing)))
        self.assert_judged(lambda thing: table_by_words(((0, thing), (0,))), lambda thing: is_table(((0, thing), (0,))))


class WindowsTest(Checks):

    def test_example_e03(self):
        self.assertEqual(windows(F), ((2, 2, 3), (1, 3), (2,)))
        self.assertEqual(comes_next(F), ((0, 1, 1), (0, 0), (0,)))
        self.assertEqual(windows_bar(((1, 3), (1,))), ("back", 0, 1))

    def test_one_twelve_and_thirteen_hours(self):
        self.assertEqual(windows(Feed(((),), ())), ((0,),))
        self.assertEqual(comes_next(Feed((((0, 1), (999, None)),), (0,))), ((0,),))
        self.assertEqual(windows(Feed((((0, 1), (999, None)),), (0,))), ((2,),))
        twelve = full_feed(12, (3,))
        self.assertEqual(windows(twelve), windows_by_words(twelve))
        self.assertEqual(comes_next(twelve), next_by_words(twelve))
        for hours in [13, 40]:
            self.assert_error(TooMany, (12,), windows, full_feed(hours, ()))
            self.assert_error(TooMany, (12,), comes_next, full_feed(hours, ()))

    def test_against_the_words(self):
        for feed in rows_of_random_feeds(4, 150, 12, 9, 9):
            table = windows(feed)
            self.assertTrue(table_by_words(table))
            self.assertEqual(table, windows_by_words(feed))
            self.assertEqual(comes_next(feed), next_by_words(feed))

    def test_first_fact_of_feeds(self):
        for feed in rows_of_random_feeds(5, 80, 12, 8, 8):
            table = windows(feed)
            backs = backs_by_words(table)
            self.assertIsNone(windows_bar(table))
            self.assertEqual(comes_next(feed), laid_out(len(table), lambda a, m: backs[a, m] if m > a else 0))


class BarTest(Checks):

    def test_each_bar(self):
        self.assertEqual(windows_bar(((61,),)), ("size", 0))
        self.assertEqual(windows_bar(((60, 60), (61,))), ("size", 1))
        self.assertEqual(windows_bar(((1, 3), (1,))), ("back", 0, 1))
        self.assertEqual(windows_bar(((1, 2, 2), (1, 3), (1,))), ("back", 1, 2))
        self.assertEqual(windows_bar(((1, 2, 4), (1, 2), (1,))), ("back", 0, 2))
        self.assertEqual(windows_bar(((1, 2), (3,))), ("on", 0))
        self.assertEqual(windows_bar(((3, 2), (1,))), ("from", 1))
        self.assertEqual(windows_bar(((2, 2, 1), (2, 3), (2,))), ("on", 0))
        self.assertEqual(windows_bar(((1, 2, 3), (1, 2), (3,))), ("on", 1))
        self.assertEqual(windows_bar(((1, 2, 1), (1, 1), (1,))), ("from", 2))
        self.assertIsNone(windows_bar(((60,),)))
        self.assertIsNone(windows_bar(((60, 120), (60,))))
        self.assertIsNone(windows_bar(((60, 60), (60,))))

    def test_twelve_rows(self):
        def entry(a, m):
            return 60 * (m - a + 1)
        rows = [list(row) for row in laid_out(12, entry)]
        self.assertIsNone(windows_bar(tuple(tuple(row) for row in rows)))
        rows[0][11] = 721
        self.assertEqual(windows_bar(tuple(tuple(row) for row in rows)), ("back", 0, 11))
        rows[0][11] = 659
        self.assertEqual(windows_bar(tuple(tuple(row) for row in rows)), ("on", 0))
        rows[11][0] = 61
        self.assertEqual(windows_bar(tuple(tuple(row) for row in rows)), ("size", 11))

    def test_several_at_once(self):
        met = set()
        for entries in itertools.product((0, 1, 3, 61, 125), repeat=6):
            table = (entries[:3], entries[3:5], entries[5:])
            bars = bar_by_words(table)
            self.assertEqual(windows_bar(table), bars[0] if bars else None)
            met.add(tuple(sorted({bar[0] for bar in bars})))
        self.assertLessEqual({("back", "from", "on", "size"), ("on", "size"), ("from", "on"), ("back", "on"), ()}, met)

    def test_changed_tables(self):
        chance = random.Random(6)
        met = set()
        for feed in rows_of_random_feeds(7, 300, 12, 9, 9):
            rows = [list(row) for row in windows(feed)]
            for _ in range(chance.randint(1, 3)):
                row = chance.choice(rows)
                at = chance.randrange(len(row))
                row[at] = max(0, row[at] + chance.choice([-1, 1, 2]))
            table = tuple(tuple(row) for row in rows)
            bars = bar_by_words(table)
            self.assertEqual(windows_bar(table), bars[0] if bars else None)
            met.update(bar[0] for bar in bars[:1])
        self.assertEqual(met, {"back", "on", "from"})

    def test_things_of_every_kind(self):
        self.assert_refused(NoTable, (), table_by_words, windows_bar)
        self.assert_refused(NoTable, (), table_by_words, feed_of)
        for function in (windows_bar, feed_of):
            self.assert_error(NoTable, (), function, ((0, 1001), (0,)))
            self.assert_error(NoTable, (), function, laid_out(13, lambda a, m: 0))
            self.assert_error(NoTable, (), function, [(0,)])
            self.assert_error(NoTable, (), function, nested("tuple", 40, 0))


class FeedOfTest(Checks):

    def assert_fits(self, table):
        feed = feed_of(table)
        self.assertIs(type(feed), Feed)
        self.assertEqual(windows_by_words(feed), table)
        self.assertEqual(feed.kept, ())
        self.assertTrue(all(is_int(value) for batch in feed.batches for _, value in batch))

    def test_few_and_many(self):
        for table in [((0,),), ((60,),), laid_out(12, lambda a, m: 0), laid_out(12, lambda a, m: 60),
                      laid_out(12, lambda a, m: 60 * (m - a + 1)), laid_out(12, lambda a, m: min(60, 5 * (m - a + 1))),
                      ((2, 2, 3), (1, 3), (2,))]:
            self.assertEqual(feed_of(table) is None, bool(bar_by_words(table)))
            if not bar_by_words(table):
                self.assert_fits(table)
        self.assertIsNone(feed_of(((61,),)))
        self.assertIsNone(feed_of(((1, 3), (1,))))

    def test_tables_of_feeds(self):
        feeds = list(rows_of_random_feeds(8, 120, 12, 10, 10)) + list(rows_of_random_feeds(9, 40, 12, 90, 60))
        for feed in feeds + [full_feed(12, ()), full_feed(11, (0, 10))]:
            table = windows_by_words(feed)
            self.assert_fits(table)
            self.assertEqual(windows(feed_of(table)), table)

    def test_each_table_of_three_hours(self):
        batches = [told for many in range(3) for told in itertools.combinations(range(6), many)]
        known = set()
        for row in itertools.product(batches, repeat=3):
            known.add(windows_by_words(Feed(tuple(tuple((key, 0) for key in told) for told in row), ())))
        three, five = range(3), range(5)
        for a, b, c, ab, bc, abc in itertools.product(three, three, three, five, five, range(7)):
            table = ((a, ab, abc), (b, bc), (c,))
            self.assertEqual(feed_of(table) is not None, table in known)
            self.assertEqual(windows_bar(table) is None, table in known)
            if table in known:
                self.assert_fits(table)


if __name__ == "__main__":
    unittest.main()
