import random
import unittest

from joinshelf.errors import NoBatch, NoPlan
from joinshelf.feeds import Feed
from joinshelf.texts import batch_text, feed_text, plan_text
from tests.test_feeds import SIXTY, SIXTY_ONE, batch_by_words
from tests.test_plans import plan_by_words
from tests.things import BIG, F, Checks, all_plans_by_words, full_feed, nested, rows_of_random_feeds


def words_of_batch(batch):
    words = [f"{key}-" if value is None else f"{key}={value}" for key, value in batch]
    return " ".join(words or ["-"])


class BatchTextTest(Checks):

    def test_example_e12(self):
        self.assertEqual(batch_text(((1, None), (3, -4))), "1- 3=-4")

    def test_by_hand(self):
        for batch, text in [((), "-"), (((0, 0),), "0=0"), (((999, None),), "999-"), (((0, None),), "0-"),
                            (((1, 5), (2, 7)), "1=5 2=7"), (((10, 100), (200, -30)), "10=100 200=-30"),
                            (((5, 999999999),), "5=999999999"), (((5, -1234567890),), "5=-1234567890"),
                            (((5, BIG), (6, -BIG)), "5=" + "9" * 60 + " 6=-" + "9" * 60)]:
            self.assertEqual(batch_text(batch), text)

    def test_sixty_pairs(self):
        self.assertEqual(batch_text(SIXTY), " ".join(f"{key}={key}" for key in range(60)))
        self.assertEqual(batch_text(tuple((key, None) for key in range(940, 1000))),
                         " ".join(f"{key}-" for key in range(940, 1000)))

    def test_things_of_every_kind(self):
        self.assert_refused(NoBatch, (), batch_by_words, batch_text)
        self.assert_refused(NoBatch, (), lambda thing: batch_by_words((thing,)), lambda thing: batch_text((thing,)))
        self.assert_refused(NoBatch, (), lambda thing: batch_by_words(((thing, 1),)),
                            lambda thing: batch_text(((thing, 1),)))
        self.assert_refused(NoBatch, (), lambda thing: batch_by_words(((1, thing),)),
                            lambda thing: batch_text(((1, thing),)))
        for thing in [SIXTY_ONE, [(1, 5)], ([1, 5],), ((2, 1), (1, 1)), ((1, True),), ((1000, 0),), ((-1, 0),), "1=5",
                      None, F, nested("list", 40, 0)]:
            self.assert_error(NoBatch, (), batch_text, thing)


class FeedTextTest(Checks):

    def test_by_hand(self):
        self.assertEqual(feed_text(F), "batch 1=5 2=7\nbatch 1-\nbatch 2=8 3=1\nkept 0\n")
        self.assertEqual(feed_text(Feed(((),), ())), "batch -\n")
        self.assertEqual(feed_text(Feed(((), ()), (0, 1))), "batch -\nbatch -\nkept 0 1\n")
        self.assertEqual(feed_text(Feed((((7, -BIG),),), ())), "batch 7=-" + "9" * 60 + "\n")

    def test_against_the_words(self):
        feeds = list(rows_of_random_feeds(120, 60, 9, 6, 6)) + [full_feed(40, ()), full_feed(40, tuple(range(40)))]
        for feed in feeds:
            lines = ["batch " + words_of_batch(batch) for batch in feed.batches]
            if feed.kept:
                lines.append("kept " + " ".join(str(hour) for hour in feed.kept))
            self.assertEqual(feed_text(feed), "\n".join(lines) + "\n")


class PlanTextTest(Checks):

    def test_by_hand(self):
        self.assertEqual(plan_text((0,)), "0")
        self.assertEqual(plan_text((0, 1, 1)), "0,1,1")
        self.assertEqual(plan_text(tuple(range(40))), ",".join(str(hour) for hour in range(40)))
        self.assertEqual(plan_text((0,) * 40), ",".join("0" * 40))

    def test_all_plans_of_few_hours(self):
        for hours in range(1, 7):
            for plan, _ in all_plans_by_words(hours):
                self.assertEqual(plan_text(plan), ",".join(str(begin) for begin in plan))

    def test_things_of_every_kind(self):
        self.assert_refused(NoPlan, (), plan_by_words, plan_text)
        self.assert_refused(NoPlan, (), lambda thing: plan_by_words((0, thing)), lambda thing: plan_text((0, thing)))
        chance = random.Random(121)
        for _ in range(300):
            thing = tuple(chance.randint(0, 3) for _ in range(chance.randint(0, 4)))
            if plan_by_words(thing):
                self.assertEqual(plan_text(thing), str(thing)[1:-1].rstrip(",").replace(" ", ""))
            else:
                self.assert_error(NoPlan, (), plan_text, thing)
        for thing in [(), (1,), (0, 0, 1), [0], "0", (0, True), None, (0,) * 41, F]:
            self.assert_error(NoPlan, (), plan_text, thing)


if __name__ == "__main__":
    unittest.main()
