import random
import re
import unittest

from joinshelf.errors import BadFeed, BadText
from joinshelf.feeds import Feed
from joinshelf.reading import read_batch, read_feed, read_plan
from joinshelf.texts import batch_text, feed_text, plan_text
from tests.test_feeds import SIXTY, batch_by_words
from tests.test_plans import plan_by_words
from tests.things import (BIG, F, Checks, all_plans_by_words, nested, odd_things, plain_things)

# The forms, in the words of regular expressions: whole lines alone are matched.
NUMBER = "(?:0|[1-9][0-9]{0,8})"
PAIR = f"{NUMBER}(?:-|=(?:0|-?[1-9][0-9]{{0,8}}))"
WORDS = f"(?:-|{PAIR}(?: {PAIR})*)"
HOURS = f"{NUMBER}(?: {NUMBER})*"
BEGINS = f"{NUMBER}(?:,{NUMBER})*"

SIGNS = "0123456789-= ,\n\tabcekpthx+.#~"


def pairs_by_words(text):
    """The pairs of a text that has the form of a batch, None for others."""
    if not re.fullmatch(WORDS, text):
        return None
    pairs = []
    for key, value in re.findall("([0-9]+)(-|=-?[0-9]+)", text):
        pairs.append((int(key), None if value == "-" else int(value[1:])))
    return tuple(pairs)


def batch_told_by_words(text):
    """The batch, or the fields of BadText."""
    pairs = pairs_by_words(text)
    return ("batch", pairs) if pairs is not None and batch_by_words(pairs) else ("text", 1)


def feed_told_by_words(text):
    """What reading a feed gives: its batches and kept hours, or the fields of an error."""
    pieces = re.findall("[^\n]*\n|[^\n]+", text)
    batches, kept = [], None
    for at, piece in enumerate(pieces, start=1):
        as_batch = re.fullmatch(f"batch ({WORDS})\n", piece)
        as_kept = re.fullmatch(f"kept ({HOURS})\n", piece)
        if as_batch and kept is None:
            batches.append(pairs_by_words(as_batch.group(1)))
        elif as_kept and kept is None and batches:
            kept = [int(word) for word in as_kept.group(1).split()]
        else:
            return ("text", at)
    if not pieces:
        return ("text", 1)
    kept = [] if kept is None else kept
    if len(batches) > 40:
        return ("feed", "batches", -1)
    for hour, batch in enumerate(batches):
        if not batch_by_words(batch):
            return ("feed", "batches", hour)
    if kept != sorted(set(kept)) or (kept and kept[-1] >= len(batches)):
        return ("feed", "kept", -1)
    return ("right", tuple(batches), tuple(kept))


def plan_told_by_words(text):
    if not re.fullmatch(BEGINS, text):
        return ("text", 1)
    plan = tuple(int(word) for word in text.split(","))
    return ("plan", plan) if plan_by_words(plan) else ("text", 1)


def changed_texts(chance, text, many):
    """Texts with one sign put in, left out or another one, and such with two parts exchanged."""
    for _ in range(many):
        at = chance.randint(0, len(text))
        sign = chance.choice(SIGNS)
        yield text[:at] + sign + text[at:]
        yield text[:at] + text[at + 1:]
        yield text[:at] + sign + text[at + 1:]
        yield text[:at] + text[at:at + 1] * 2 + text[at + 1:]


def readable_batch(chance):
    keys = sorted(chance.sample(range(1000), chance.choice([0, 1, 2, 5, 60])))
    values = [None, None, 0, 7, -7, 10, -10, 999999999, -999999999]
    return tuple((key, chance.choice(values)) for key in keys)


class Reads(Checks):

    def assert_told(self, told, function, text):
        """Reading the text gives what is told, or raises the error that is told."""
        with self.subTest(text=text[:300]):
            if told[0] == "text":
                self.assert_error(BadText, told[1:], function, text)
            elif told[0] == "feed":
                self.assert_error(BadFeed, told[1:], function, text)
            elif told[0] == "right":
                feed = function(text)
                self.assertIs(type(feed), Feed)
                self.assertEqual((feed.batches, feed.kept), told[1:])
            else:
                self.assertEqual(function(text), told[1])

    def assert_only_strings(self, function):
        for thing in odd_things():
            if type(thing) is not str:
                self.assert_error(BadText, (0,), function, thing)
        for thing in [None, True, 0, 1, b"-", b"0", ["0"], ("0",), {"0": "0"}, F, nested("list", 40, "0"), BIG]:
            self.assert_error(BadText, (0,), function, thing)


class ReadBatchTest(Reads):

    def test_by_hand(self):
        for text, batch in [("-", ()), ("1- 3=-4", ((1, None), (3, -4))), ("0=0", ((0, 0),)), ("0-", ((0, None),)),
                            ("999=999999999", ((999, 999999999),)), ("7=-999999999", ((7, -999999999),)),
                            ("1=5 2=7 10=100", ((1, 5), (2, 7), (10, 100))), ("5=-1", ((5, -1),)),
                            (batch_text(SIXTY), SIXTY)]:
            self.assertEqual(read_batch(text), batch)
            self.assertIs(type(read_batch(text)), tuple)

    def test_wrong_ones(self):
        for text in ["", " ", "--", "- -", "- 1=2", "1=2 -", " 1=2", "1=2 ", "1=2  2=3", "1=2\n", "\n", "1=2\t2=3",
                     "\t1=2", "01=2", "1=02", "1=00", "00=1", "1=-0", "1=-01", "1=--1", "1=+1", "+1=1", "-1=1", "1",
                     "1=", "=1", "=", "1=-", "1==1", "1-1", "1--", "1=1-", "1=1=1", "1- -", "1=a", "a=1", "a-", "1=1.0",
                     "1=1,2=2", "1 =1", "1= 1", "1=1234567890", "1=-1234567890", "1=0123456789", "1234567890=1",
                     "1234567890-", "1000=1", "1000-", "999999999=1", "2=1 1=1", "1=1 1=1", "1=1 1-", "1=1\n2=2",
                     "1=0x1", "1=1e1", "1=1_0", "batch -", "batch 1=2", " -", "- ", "-\n", "None", "1=None", "1~"]:
            self.assert_error(BadText, (1,), read_batch, text)
            self.assertEqual(batch_told_by_words(text), ("text", 1), text)

    def test_sixty_pairs_and_more(self):
        words = [f"{key}={key}" for key in range(61)]
        self.assertEqual(len(read_batch(" ".join(words[:60]))), 60)
        self.assert_error(BadText, (1,), read_batch, " ".join(words))

    def test_written_and_read_back(self):
        chance = random.Random(130)
        for _ in range(300):
            batch = readable_batch(chance)
            self.assertEqual(read_batch(batch_text(batch)), batch)

    def test_figures(self):
        for value in [10 ** 8, 10 ** 9 - 1, -(10 ** 9 - 1), -(10 ** 8)]:
            self.assertEqual(read_batch(batch_text(((1, value),))), ((1, value),))
        for value in [10 ** 9, -(10 ** 9), BIG, -BIG]:
            self.assert_error(BadText, (1,), read_batch, batch_text(((1, value),)))

    def test_changed_texts(self):
        chance = random.Random(131)
        met = {"batch": 0, "text": 0}
        for text in ["-", "1=5", "1- 3=-4", "0- 1=0 20=-30 999=100", "9=999999999", "100=-20 101- 102=7", "5- 6- 7-"]:
            for changed in changed_texts(chance, text, 300):
                told = batch_told_by_words(changed)
                met[told[0]] += 1
                self.assert_told(told, read_batch, changed)
        self.assertGreater(min(met.values()), 300)

    def test_signs_alone(self):
        for sign in [chr(code) for code in range(32, 127)] + ["\n", "\t"]:
            self.assert_told(batch_told_by_words(sign), read_batch, sign)
            self.assert_told(batch_told_by_words("1=" + sign), read_batch, "1=" + sign)
            self.assert_told(batch_told_by_words("1" + sign), read_batch, "1" + sign)

    def test_things_that_are_no_strings(self):
        self.assert_only_strings(read_batch)


class ReadFeedTest(Reads):

    def test_by_hand(self):
        self.assertTrue(read_feed("batch 1=5 2=7\nbatch 1-\nbatch 2=8 3=1\nkept 0\n") == F)
        self.assertTrue(read_feed("batch -\n") == Feed(((),), ()))
        self.assertTrue(read_feed("batch -\nbatch -\nkept 0 1\n") == Feed(((), ()), (0, 1)))
        self.assertIs(type(read_feed("batch -\n").batches), tuple)
        self.assertIs(type(read_feed("batch -\nkept 0\n").kept), tuple)

    def test_wrong_forms(self):
        for text, line in [("", 1), ("\n", 1), ("x", 1), ("batch -", 1), ("batch -\nx", 2), ("batch -\n\n", 2),
                           ("batch -\nbatch -", 2), ("batch -\nkept 0", 2), ("batch -\n ", 2), ("kept 0\n", 1),
                           ("kept 0\nbatch -\n", 1), ("batch -\nkept 0\nbatch -\n", 3), ("batch -\nkept 0\nkept 0\n", 3),
                           ("batch -\nkept 0\n\n", 3), ("batch -\nkept 0\nx", 3), ("batch -\nkept 0\nkept 0", 3),
                           ("batch -\nkept 0\nbatch -", 3), ("x\nbatch -", 1), ("batch -\nx\nbatch -", 2),
                           ("batch\n", 1), ("batch \n", 1), ("batch  -\n", 1), (" batch -\n", 1), ("batch - \n", 1),
                           ("batch -\nkept\n", 2), ("batch -\nkept \n", 2), ("batch -\nkept  0\n", 2),
                           ("batch -\nkept 0 \n", 2), ("batch -\nkept 00\n", 2), ("batch -\nkept -1\n", 2),
                           ("batch -\nkept 0,1\n", 2), ("batch -\nkept 1234567890\n", 2), ("batch -\nkept -\n", 2),
                           ("batch -\nkept 0=1\n", 2), ("Batch -\n", 1), ("batch\t-\n", 1), ("batch -\nKept 0\n", 2),
                           ("batch 1=5\nbatch 01=5\n", 2), ("batch 1=-0\n", 1), ("batch 1=1234567890\n", 1),
                           ("batch -\n" * 40 + "x", 41), ("batch -\n" * 41 + "x", 42), ("-\n", 1), ("1=5\n", 1),
                           ("batch 1=5  2=6\n", 1), ("batch -\nbatch -\nkept 0  1\n", 3), ("\nbatch -\n", 1),
                           ("batch -\n\nbatch -\n", 2), ("batch 1=5 batch 2=6\n", 1), ("batch kept 0\n", 1)]:
            self.assert_error(BadText, (line,), read_feed, text)
            self.assertEqual(feed_told_by_words(text), ("text", line), text)

    def test_right_forms_of_no_feeds(self):
        for text, part, at in [("batch 1=5 1=6\n", "batches", 0), ("batch 2=5 1=6\n", "batches", 0),
                               ("batch 1000=5\n", "batches", 0), ("batch -\nbatch 1000-\n", "batches", 1),
                               ("batch -\nbatch 1000-\nbatch 2- 1-\nkept 9\n", "batches", 1),
                               ("batch -\nkept 1\n", "kept", -1), ("batch -\nkept 0 0\n", "kept", -1),
                               ("batch -\nbatch -\nkept 1 0\n", "kept", -1), ("batch -\nkept 999999999\n", "kept", -1),
                               ("batch -\n" * 41, "batches", -1), ("batch -\n" * 41 + "kept 40\n", "batches", -1),
                               ("batch 1000-\n" * 41, "batches", -1), ("batch -\n" * 40 + "kept 40\n", "kept", -1),
                               ("batch " + " ".join(f"{key}-" for key in range(61)) + "\n", "batches", 0)]:
            self.assert_error(BadFeed, (part, at), read_feed, text)
            self.assertEqual(feed_told_by_words(text), ("feed", part, at), text)

    def test_wrong_forms_come_first(self):
        self.assert_error(BadText, (2,), read_feed, "batch 1000-\nx\n")
        self.assert_error(BadText, (2,), read_feed, "batch 1000-\nx")
        self.assert_error(BadText, (1,), read_feed, "x\nbatch 1000-\ny")
        self.assert_error(BadText, (42,), read_feed, "batch -\n" * 41 + "kept\n")
        self.assert_error(BadText, (3,), read_feed, "batch 1000-\nkept 7 7\nkept 0\n")
        self.assert_error(BadText, (3,), read_feed, "batch 1000-\nkept 7 7\nkept 0")

    def test_forty_batches(self):
        feed = Feed((SIXTY,) * 40, tuple(range(40)))
        self.assertTrue(read_feed(feed_text(feed)) == feed)
        self.assertTrue(read_feed("batch -\n" * 40) == Feed(((),) * 40, ()))

    def test_written_and_read_back(self):
        chance = random.Random(132)
        for _ in range(150):
            batches = tuple(readable_batch(chance) for _ in range(chance.choice([1, 2, 5, 40])))
            kept = tuple(hour for hour in range(len(batches)) if chance.random() < chance.choice([0, 0.3, 1]))
            feed = Feed(batches, kept)
            self.assertTrue(read_feed(feed_text(feed)) == feed)

    def test_changed_texts(self):
        chance = random.Random(133)
        met = {"right": 0, "feed": 0, "text": 0}
        for text in ["batch 1=5 2=7\nbatch 1-\nbatch 2=8 3=1\nkept 0\n", "batch -\n", "batch -\nkept 0\n",
                     "batch 10=-20\nbatch -\nbatch 4- 5=0 6-\nbatch 100=999999999\nkept 0 1 3\n"]:
            for changed in changed_texts(chance, text, 500):
                told = feed_told_by_words(changed)
                met[told[0]] += 1
                self.assert_told(told, read_feed, changed)
        self.assertGreater(min(met.values()), 100)

    def test_exchanged_lines(self):
        chance = random.Random(134)
        lines = ["batch 1=5 2=7\n", "batch 1-\n", "batch -\n", "kept 0\n", "kept 0 1\n", "kept 2\n", "\n", "kept\n",
                 "batch\n", "batch 2- 1-\n", "x\n", "kept 1 0\n", "batch -"]
        met = {"right": 0, "feed": 0, "text": 0}
        for _ in range(3000):
            text = "".join(chance.choice(lines) for _ in range(chance.randint(0, 5)))
            told = feed_told_by_words(text)
            met[told[0]] += 1
            self.assert_told(told, read_feed, text)
        self.assertGreater(min(met.values()), 30)

    def test_things_that_are_no_strings(self):
        self.assert_only_strings(read_feed)


class ReadPlanTest(Reads):

    def test_by_hand(self):
        for text, plan in [("0", (0,)), ("0,1,1", (0, 1, 1)), ("0,0,2,0", (0, 0, 2, 0))]:
            self.assertEqual(read_plan(text), plan)
            self.assertIs(type(read_plan(text)), tuple)
        self.assertEqual(read_plan(",".join(str(hour) for hour in range(40))), tuple(range(40)))

    def test_wrong_ones(self):
        for text in ["", ",", "0,", ",0", "0,,1", "1", "0,2", "0,0,1", "00", "0,01", "0, 1", "0 ,1", " 0", "0 ", "0\n",
                     "0,1\n", "\n", "-0", "0,-1", "+0", "0;1", "0 1", "(0,)", "(0, 1)", "a", "0,a", "-", "0.0", "none",
                     "0,1234567890", "0,999999999", "0\t", "0\n,1", ",".join(["0"] * 41), "0,1,1,"]:
            self.assert_error(BadText, (1,), read_plan, text)
            self.assertEqual(plan_told_by_words(text), ("text", 1), text)

    def test_written_and_read_back(self):
        for hours in range(1, 7):
            for plan, _ in all_plans_by_words(hours):
                self.assertEqual(read_plan(plan_text(plan)), plan)
        for plan in [(0,) * 40, tuple(range(40)), (*range(39), 0)]:
            self.assertEqual(read_plan(plan_text(plan)), plan)

    def test_changed_texts(self):
        chance = random.Random(135)
        met = {"plan": 0, "text": 0}
        for text in ["0", "0,1,1", "0,1,2,3,4,5,6,7,8,9,10,11,10,0", "0,0,0,3,3"]:
            for changed in changed_texts(chance, text, 300):
                told = plan_told_by_words(changed)
                met[told[0]] += 1
                self.assert_told(told, read_plan, changed)
        self.assertGreater(min(met.values()), 50)

    def test_things_that_are_no_strings(self):
        self.assert_only_strings(read_plan)
        for text in [thing for thing in plain_things() if type(thing) is str]:
            self.assert_told(plan_told_by_words(text), read_plan, text)
            self.assert_told(feed_told_by_words(text), read_feed, text)
            self.assert_told(batch_told_by_words(text), read_batch, text)


if __name__ == "__main__":
    unittest.main()
