import random
import re
import unittest

from joinshelf.desks import Desk
from joinshelf.errors import NoBatch, NoHour, NoKey, NoLine, NoName, NoNumber, NothingDone, ShelfError, TooMany
from joinshelf.leasts import least
from joinshelf.plans import shelf_behind
from joinshelf.stores import Store
from joinshelf.tasks import task_of
from tests.test_feeds import batch_by_words
from tests.test_reading import NUMBER, SIGNS, WORDS, changed_texts, pairs_by_words
from tests.test_texts import words_of_batch
from tests.things import BIG, Checks, nested, odd_things

NAME = "[a-z]{1,8}"
FORMS = [f"store {NAME} {NUMBER}", f"put {NAME} {NUMBER} {WORDS}", f"keep {NAME}", f"drop {NAME}", "undo",
         f"look {NAME} {NUMBER}", f"at {NAME} {NUMBER} {NUMBER}", f"stretch {NAME} {NUMBER} {NUMBER}", f"runs {NAME}",
         f"rows {NAME}", f"plan {NAME}", f"least {NAME} {NUMBER}", "names"]

# Lines of each form.
LINES = ["store abc 3", "put abc 0 1=5 2-", "put abc 1 -", "keep abc", "drop abc", "undo", "look abc 1", "at abc 1 1",
         "stretch abc 0 999", "runs abc", "rows abc", "plan abc", "least abc 3", "names"]


def has_form_by_words(line):
    return type(line) is str and any(re.fullmatch(form, line) for form in FORMS)


def told_all(desk, lines):
    return [desk.tell(line) for line in lines]


def state_of(desk):
    """All that a desk tells."""
    names = desk.tell("names")
    found = [names, desk.undoable()]
    for name in [] if names == "none" else names.split(" "):
        for line in ("runs", "rows", "plan"):
            found.append(desk.tell(f"{line} {name}"))
        found.append(desk.tell(f"stretch {name} 0 999"))
        found.append([desk.tell(f"look {name} {key}") for key in range(5)])
    return found


class Model:
    """A desk that keeps a copy of all stores behind each line that can be taken back."""

    def __init__(self):
        self.past = [{}]

    def tell(self, line):
        words = line.split(" ")
        stores = self.past[-1]
        if words[0] == "names":
            return " ".join(sorted(stores)) or "none"
        if words[0] == "undo":
            if len(self.past) == 1:
                raise NothingDone()
            self.past.pop()
            return "ok"
        if words[0] != "store" and words[1] not in stores:
            raise NoName(words[1])
        if words[0] in ("store", "put", "keep", "drop"):
            later = {name: store.copy() for name, store in stores.items()}
            if words[0] == "store":
                later[words[1]] = Store(int(words[2]))
            elif words[0] == "put":
                later[words[1]].put(pairs_by_words(" ".join(words[3:])), int(words[2]))
            elif words[0] == "keep":
                later[words[1]].keep()
            else:
                del later[words[1]]
            self.past.append(later)
            return "ok"
        return self.asked(stores[words[1]], words[0], [int(word) for word in words[2:]])

    def asked(self, store, word, numbers):
        if word in ("look", "at"):
            value, looked = store.look(*numbers) if word == "look" else store.look_at(*numbers)
            return f"{'none' if value is None else value} {looked}"
        if word == "stretch":
            return words_of_batch(store.stretch(*numbers))
        if word == "rows":
            return str(store.rows())
        plan = store.plan()
        if word == "plan":
            return str(list(plan))[1:-1].replace(" ", "") or "none"
        if word == "runs":
            shelf = shelf_behind(plan, len(plan) - 1) if plan else ()
            return " ".join(f"{run[0]}-{run[1]}:{len(told)}" for run, told in zip(shelf, store.runs())) or "none"
        return str(least(task_of(store.feed(), tuple(() for _ in plan)), *numbers)) if plan else "0"


def outcome(tell, line):
    """What a line is answered, or the class and the fields of the error that it raises."""
    try:
        return tell(line)
    except ShelfError as error:
        return type(error), vars(error)


class DeskTest(Checks):

    def test_by_hand(self):
        desk = Desk()
        for line, known in [
                ("names", "none"), ("store abc 3", "ok"), ("names", "abc"), ("runs abc", "none"), ("rows abc", "0"),
                ("plan abc", "none"), ("look abc 1", "none 0"), ("stretch abc 0 999", "-"), ("least abc 3", "0"),
                ("put abc 0 1=5 2=7", "ok"), ("runs abc", "0-0:2"), ("rows abc", "2"), ("plan abc", "0"),
                ("look abc 1", "5 1"), ("look abc 3", "none 1"), ("at abc 0 2", "7 1"), ("least abc 1", "2"),
                ("keep abc", "ok"), ("put abc 1 1-", "ok"), ("runs abc", "0-0:2 1-1:1"), ("look abc 1", "none 1"),
                ("look abc 2", "7 2"), ("at abc 0 1", "5 1"), ("at abc 1 1", "none 1"), ("stretch abc 0 999", "2=7"),
                ("put abc 1 2=-8 3=1", "ok"), ("runs abc", "0-0:2 1-2:3"), ("rows abc", "6"), ("plan abc", "0,1,1"),
                ("look abc 2", "-8 1"), ("stretch abc 0 999", "2=-8 3=1"), ("stretch abc 3 3", "3=1"),
                ("stretch abc 4 999", "-"), ("stretch abc 3 2", "-"), ("least abc 1", "10"), ("least abc 3", "5"),
                ("store b 1", "ok"), ("names", "abc b"), ("put b 0 -", "ok"), ("runs b", "0-0:0"), ("rows b", "0"),
                ("drop abc", "ok"), ("names", "b"), ("undo", "ok"), ("names", "abc b"), ("plan abc", "0,1,1")]:
            self.assertEqual(desk.tell(line), known, line)
        self.assertEqual(desk.undoable(), 7)

    def test_names(self):
        desk = Desk()
        for name in ("b", "aa", "a", "zzzzzzzz", "ab", "abcdefgh", "z"):
            self.assertEqual(desk.tell(f"store {name} 1"), "ok")
        self.assertEqual(desk.tell("names"), "a aa ab abcdefgh b z zzzzzzzz")
        for name in ("a", "aa", "ab", "abcdefgh", "b", "z", "zzzzzzzz"):
            self.assertEqual(desk.tell(f"drop {name}"), "ok")
        self.assertEqual(desk.tell("names"), "none")
        for name in ("", "A", "aB", "a1", "1", "abcdefghi", "a-b", "a_b", " a", "a ", "a\n", "a\t", "-", "~"):
            for line in ("store {} 1", "put {} 0 -", "keep {}", "drop {}", "look {} 1", "at {} 0 1", "stretch {} 0 1",
                         "runs {}", "rows {}", "plan {}", "least {} 1"):
                self.assert_error(NoLine, (), desk.tell, line.format(name))

    def test_names_that_are_words_of_lines(self):
        names = ["at", "drop", "keep", "least", "look", "names", "plan", "put", "rows", "runs", "store", "stretch", "undo"]
        desk = Desk()
        for name in names:
            told_all(desk, [f"store {name} 2", f"put {name} 0 1=5", f"keep {name}", f"put {name} 1 -"])
        self.assertEqual(desk.tell("names"), " ".join(names))
        for name in names:
            self.assertEqual(told_all(desk, [f"look {name} 1", f"at {name} 0 1", f"stretch {name} 0 9", f"runs {name}",
                                             f"rows {name}", f"plan {name}", f"least {name} 1"]),
                             ["5 2", "5 1", "1=5", "0-0:1 1-1:0", "1", "0,1", "2"])
        for name in names:
            self.assertEqual(desk.tell(f"drop {name}"), "ok")
        self.assertEqual(desk.undoable(), 5 * len(names))
        self.assertEqual(desk.tell("names"), "none")

    def test_no_name(self):
        desk = Desk()
        desk.tell("store abc 2")
        for name in ("b", "ab", "abcd", "zzzzzzzz"):
            for line in LINES[1:5] + LINES[6:13]:
                self.assert_error(NoName, (name,), desk.tell, line.replace("abc", name))
        # What stands behind the name is not judged then.
        for line in ["put b 999999999 5=1 5=1", "look b 1000", "at b 77 1000", "stretch b 1000 1000", "least b 0"]:
            self.assert_error(NoName, ("b",), desk.tell, line)
        desk.tell("drop abc")
        self.assert_error(NoName, ("abc",), desk.tell, "drop abc")
        self.assert_error(NoName, ("abc",), desk.tell, "rows abc")

    def test_random_lines(self):
        met = {}
        for seed in range(60):
            chance = random.Random(seed)
            desk, model = Desk(), Model()
            for _ in range(80):
                line = self.random_line(chance)
                known = outcome(model.tell, line)
                before = state_of(desk)
                self.assertEqual(outcome(desk.tell, line), known, line)
                if type(known) is tuple:
                    self.assertEqual(state_of(desk), before)
                    met[known[0]] = met.get(known[0], 0) + 1
                self.assertEqual(desk.undoable(), len(model.past) - 1)
                self.assertEqual(state_of(desk)[0], model.tell("names"))
            while desk.undoable():
                self.assertEqual(desk.tell("undo"), model.tell("undo"))
                for name in sorted(model.past[-1]):
                    for word in ("runs", "rows", "plan", "least"):
                        line = f"{word} {name}" + (" 2" if word == "least" else "")
                        self.assertEqual(desk.tell(line), model.tell(line))
                self.assertEqual(desk.tell("names"), model.tell("names"))
            self.assert_error(NothingDone, (), desk.tell, "undo")
        for error in (NoName, NoBatch, NoNumber, NoHour, NoKey, NothingDone):
            self.assertGreater(met.get(error, 0), 5, error)

    def random_line(self, chance):
        name = chance.choice("aab")
        word = chance.choice(["store", "put", "put", "put", "put", "put", "keep", "drop", "undo", "look", "at", "stretch",
                              "runs", "rows", "plan", "least", "names"])
        if word in ("undo", "names"):
            return word
        numbers = {"store": [chance.choice([0, 1, 2, 3, 30, 31])], "put": [chance.randint(0, 3)],
                   "look": [chance.choice([0, 1, 2, 999, 1000])], "least": [chance.choice([0, 1, 2, 30, 31])],
                   "at": [chance.randint(0, 4), chance.choice([0, 1, 2, 1000])],
                   "stretch": [chance.choice([0, 1, 1000]), chance.choice([0, 2, 999, 1000])]}.get(word, [])
        words = [word, name, *map(str, numbers)]
        if word == "put":
            words.append(chance.choice(["-", "0=1", "0-", "0=-3 1=4 2-", "1- 2-", "2=9", "1=1 1=2", "1000=1"]))
        return " ".join(words)

    def test_store_in_the_place_of_another(self):
        desk = Desk()
        told_all(desk, ["store abc 3", "put abc 0 1=5", "keep abc", "put abc 1 2=6"])
        elder = state_of(desk)
        desk.tell("store abc 1")
        self.assertEqual(told_all(desk, ["runs abc", "rows abc", "plan abc", "names"]), ["none", "0", "none", "abc"])
        self.assert_error(NoNumber, (), desk.tell, "put abc 1 -")
        told_all(desk, ["put abc 0 7=7", "undo", "undo"])
        self.assertEqual(state_of(desk), elder)
        self.assertEqual(desk.tell("at abc 0 1"), "5 1")
        self.assertEqual(desk.tell("put abc 2 3=7"), "ok")

    def test_dropped_ones_taken_back(self):
        desk = Desk()
        told_all(desk, ["store abc 3", "put abc 0 1=5", "keep abc"])
        kept = state_of(desk)
        told_all(desk, ["drop abc"])
        self.assertEqual(state_of(desk), ["none", 4])
        told_all(desk, ["store abc 1", "put abc 0 -", "drop abc", "undo", "undo", "undo"])
        self.assertEqual(desk.undoable(), 4)
        self.assert_error(NoName, ("abc",), desk.tell, "runs abc")
        desk.tell("undo")
        self.assertEqual(state_of(desk), kept)
        self.assertEqual(desk.tell("at abc 0 1"), "5 1")
        self.assert_error(NoHour, (), desk.tell, "keep abc")

    def test_undo_line_by_line(self):
        desk = Desk()
        lines = ["store a 2", "put a 0 1=1", "store b 3", "keep a", "put b 0 2=2 3-", "put a 1 1-", "drop b", "store b 1",
                 "put b 0 9=9", "drop a", "store a 1"]
        states = [state_of(desk)]
        for line in lines:
            desk.tell(line)
            for asked in ("names", "runs b" if "b" in desk.tell("names") else "names"):
                desk.tell(asked)
            states.append(state_of(desk))
        for many in range(len(lines), 0, -1):
            self.assertEqual(desk.undoable(), many)
            self.assertEqual(state_of(desk), states[many])
            self.assertEqual(desk.tell("undo"), "ok")
        self.assertEqual(state_of(desk), ["none", 0])
        for _ in range(2):
            self.assert_error(NothingDone, (), desk.tell, "undo")
        self.assertEqual(told_all(desk, lines), ["ok"] * len(lines))
        self.assertEqual(state_of(desk), states[-1])

    def test_lines_that_are_not_taken_back(self):
        desk = Desk()
        told_all(desk, ["store abc 3", "put abc 0 1=5", "put abc 1 -"])
        for line in LINES[6:]:
            desk.tell(line)
            self.assertEqual(desk.undoable(), 3)
        for line in ["keep b", "put abc 9 -", "store abc 0", "x", "drop b"]:
            with self.assertRaises(ShelfError):
                desk.tell(line)
            self.assertEqual(desk.undoable(), 3)
        desk.tell("undo")
        self.assertEqual(desk.tell("runs abc"), "0-0:1")

    def test_two_desks(self):
        one, other = Desk(), Desk()
        one.tell("store abc 3")
        self.assertEqual(other.tell("names"), "none")
        self.assertEqual(other.undoable(), 0)

    def test_equal_to_nothing_else(self):
        desk = Desk()
        for thing in odd_things():
            self.assertFalse(desk == thing)


class AnswersTest(Checks):

    def desk_of(self, most, batches):
        """A desk with a store called abc, as many runs staying as may."""
        desk = Desk()
        desk.tell(f"store abc {most}")
        for hour, batch in enumerate(batches):
            desk.tell(f"put abc {min(hour, most - 1)} {words_of_batch(batch)}")
        return desk

    def test_least(self):
        for most in (0, 1, 30, 31, 999999999):
            self.assertEqual(self.desk_of(3, []).tell(f"least abc {most}"), "0")
        chance = random.Random(140)
        batches = [tuple((key, None if key % 7 == 0 else key) for key in sorted(chance.sample(range(20), 5)))
                   for _ in range(30)]
        for many in (1, 2, 7, 30):
            desk = self.desk_of(2, batches[:many])
            feed = Store(2)
            for hour, batch in enumerate(batches[:many]):
                feed.put(batch, min(hour, 1))
            task = task_of(feed.feed(), ((),) * many)
            for most in (1, 2, 3, 30):
                self.assertEqual(desk.tell(f"least abc {most}"), str(least(task, most)))
            for most in (0, 31, 999999999):
                self.assert_error(NoNumber, (), desk.tell, f"least abc {most}")
        desk = self.desk_of(2, batches + batches[:1])
        for most in (0, 1, 30, 31, 999999999):
            # TooMany comes ahead of NoNumber.
            self.assert_error(TooMany, (30,), desk.tell, f"least abc {most}")
        desk.tell("undo")
        self.assertEqual(desk.tell("least abc 30"), str(least(task, 30)))

    def test_least_looks_for_nothing(self):
        desk = self.desk_of(30, [((1, 1),)] * 5)
        self.assertEqual(desk.tell("least abc 30"), "5")
        self.assertEqual(desk.tell("rows abc"), "5")
        # A key that is told again stands once in the run of all: nothing is dearer.
        self.assertEqual(desk.tell("least abc 1"), "5")
        told_all(desk, ["keep abc", "put abc 5 1=2"])
        self.assertEqual(desk.tell("least abc 1"), "7")

    def test_forty_batches(self):
        desk = self.desk_of(30, [((7, 7),)] * 40)
        self.assert_error(TooMany, (40,), desk.tell, "put abc 0 -")
        self.assert_error(NoBatch, (), desk.tell, "put abc 0 5=1 5=1")
        self.assert_error(NoNumber, (), desk.tell, "put abc 30 -")
        self.assertEqual(desk.undoable(), 41)
        self.assertEqual(desk.tell("plan abc"), ",".join(str(min(hour, 29)) for hour in range(40)))
        self.assertEqual(desk.tell("runs abc"), " ".join([f"{hour}-{hour}:1" for hour in range(29)] + ["29-39:1"]))
        self.assertEqual(desk.tell("look abc 7"), "7 1")
        self.assertEqual(desk.tell("look abc 8"), "none 30")

    def test_stretch_of_more_than_sixty(self):
        batches = [tuple((key, key - 500) for key in range(first, first + 60)) for first in range(0, 960, 60)]
        desk = self.desk_of(3, batches)
        words = [f"{key}={key - 500}" for key in range(960)]
        self.assertEqual(desk.tell("stretch abc 0 999"), " ".join(words))
        self.assertEqual(desk.tell("stretch abc 100 900"), " ".join(words[100:901]))
        self.assertEqual(desk.tell("stretch abc 500 500"), "500=0")
        self.assertEqual(desk.tell("stretch abc 960 999"), "-")
        self.assertEqual(desk.tell("stretch abc 999 0"), "-")
        self.assertEqual(desk.tell("rows abc"), str(60 + 60 + sum(60 * many for many in range(1, 15))))

    def test_values(self):
        desk = self.desk_of(2, [((0, 0), (1, -1), (2, 999999999), (3, -999999999), (999, None))])
        self.assertEqual([desk.tell(f"look abc {key}") for key in (0, 1, 2, 3, 999, 998)],
                         ["0 1", "-1 1", "999999999 1", "-999999999 1", "none 1", "none 1"])
        self.assertEqual(desk.tell("at abc 0 3"), "-999999999 1")
        self.assertEqual(desk.tell("stretch abc 0 999"), "0=0 1=-1 2=999999999 3=-999999999")

    def test_errors_of_lines(self):
        desk = self.desk_of(2, [((1, 5),), ((2, 6),)])
        before = state_of(desk)
        for line, error in [("store b 0", NoNumber), ("store b 31", NoNumber), ("store abc 999999999", NoNumber),
                            ("put abc 2 -", NoNumber), ("put abc 999999999 -", NoNumber), ("put abc 0 1000=1", NoBatch),
                            ("put abc 9 2=1 1=1", NoBatch), ("put abc 0 1- 1=0", NoBatch),
                            ("put abc 0 " + " ".join(f"{key}-" for key in range(61)), NoBatch),
                            ("look abc 1000", NoKey), ("look abc 999999999", NoKey), ("at abc 0 1", NoHour),
                            ("at abc 2 1", NoHour), ("at abc 0 1000", NoHour), ("at abc 1 1000", NoKey),
                            ("stretch abc 1000 0", NoKey), ("stretch abc 0 1000", NoKey), ("least abc 0", NoNumber),
                            ("least abc 31", NoNumber)]:
            self.assert_error(error, (), desk.tell, line)
            self.assertEqual(state_of(desk), before)
        desk.tell("keep abc")
        before = state_of(desk)
        self.assert_error(NoHour, (), desk.tell, "keep abc")
        self.assertEqual(state_of(desk), before)
        empty = self.desk_of(2, [])
        for line in ("keep abc", "at abc 0 1", "at abc 0 1000"):
            self.assert_error(NoHour, (), empty.tell, line)
        self.assert_error(NoKey, (), empty.tell, "look abc 1000")
        self.assertEqual(state_of(empty), ["abc", 1, "none", "0", "none", "-", ["none 0"] * 5])


class FormsTest(Checks):

    def fresh(self):
        desk = Desk()
        told_all(desk, ["store abc 3", "put abc 0 1=5 2=6", "put abc 1 1-"])
        return desk

    def test_each_form(self):
        for line in LINES:
            self.assertTrue(has_form_by_words(line), line)
            self.assertIs(type(self.fresh().tell(line)), str)

    def test_wrong_forms(self):
        desk = self.fresh()
        before = state_of(desk)
        for line in ["", " ", "\n", "x", "abc", "undo 1", "undo abc", " undo", "undo ", "undo\n", "Undo", "names abc",
                     "names ", "store", "store abc", "store abc 3 4", "store  abc 3", "store abc  3", "store abc 3 ",
                     "store abc 03", "store abc -1", "store abc +3", "store abc 1234567890", "store abc x", "store 3 abc",
                     "store abc 3\n", "store abc\t3", "store\tabc 3", "put abc", "put abc 0", "put abc 0 ", "put abc -",
                     "put abc 0 - -", "put abc 0 1=5  2=6", "put abc 0 1=05", "put abc 0 1=-0", "put abc 0 01=5",
                     "put abc 00 1=5", "put abc 0 1", "put abc 0 1=5 ", "put abc 0 1=1234567890", "put abc 1=5",
                     "put abc 0 1=5\n", "put abc 0 1=5\t2=6", "put abc -1 1=5", "put abc 0 1=5,2=6", "put abc 0 none",
                     "put abc 0 1234567890-", "keep", "keep abc 1", "keep abc ", "drop", "drop abc abc", "look abc",
                     "look abc 1 2", "look abc -1", "look abc 01", "look abc 1=5", "at abc 1", "at abc 1 1 1",
                     "at abc 01 1", "at abc 1 x", "stretch abc 1", "stretch abc 1 2 3", "stretch abc -1 5", "runs",
                     "runs abc 1", "runs  abc", "rows", "rows abc 0", "plan", "plan abc abc", "least", "least abc",
                     "least abc 1 1", "least abc none", "STORE abc 3", "back abc", "copy abc", "feed abc", "undo\nundo",
                     "names\nnames", "keep abc\nkeep abc", "\nnames", "~", "none", "ok", "keep abc\n"]:
            self.assertFalse(has_form_by_words(line), line)
            self.assert_error(NoLine, (), desk.tell, line)
        self.assertEqual(state_of(desk), before)

    def test_changed_lines(self):
        chance = random.Random(141)
        right = 0
        for line in LINES + ["put abc 1 1=-50 20- 300=0", "at abc 10 200"]:
            for changed in changed_texts(chance, line, 150):
                desk = self.fresh()
                if has_form_by_words(changed):
                    right += 1
                    found = outcome(desk.tell, changed)
                    self.assertTrue(type(found) is str or found[0] is not NoLine, changed)
                else:
                    self.assert_error(NoLine, (), desk.tell, changed)
        self.assertGreater(right, 500)

    def test_signs_between(self):
        for sign in SIGNS:
            line = f"look{sign}abc{sign}1"
            if sign == " ":
                self.assertEqual(self.fresh().tell(line), "none 1")
            else:
                self.assert_error(NoLine, (), self.fresh().tell, line)

    def test_numbers_of_nine_figures_and_more(self):
        desk = self.fresh()
        for number in ("999999999", "100000000", "0"):
            for line in ["store b {}", "put abc {} 1=5", "look abc {}", "at abc {} 1", "at abc 1 {}", "stretch abc {} 1",
                         "stretch abc 1 {}", "least abc {}", "put abc 9 {}=5", "put abc 9 {}-", "put abc 9 5={}"]:
                found = outcome(desk.tell, line.format(number))
                self.assertTrue(type(found) is str or found[0] is not NoLine, line)
        for number in ("1234567890", "1000000000", "00", "01", "-1", "-0", "", "1.0", "1e1", "9" * 60):
            for line in ["store b {}", "put abc {} 1=5", "look abc {}", "at abc {} 1", "at abc 1 {}", "stretch abc {} 1",
                         "stretch abc 1 {}", "least abc {}", "put abc 9 {}=5", "put abc 9 1- {}-"]:
                self.assert_error(NoLine, (), desk.tell, line.format(number))

    def test_things_that_are_no_strings(self):
        desk = self.fresh()
        before = state_of(desk)
        for thing in odd_things():
            self.assert_error(NoLine, (), desk.tell, thing)
        for thing in [None, 0, True, b"names", ["names"], ("names",), {"names": 0}, BIG, Desk(), Store(3),
                      nested("list", 40, "names"), nested("tuple", 40, "undo")]:
            self.assert_error(NoLine, (), desk.tell, thing)
        self.assertEqual(state_of(desk), before)

    def test_batches_that_are_none(self):
        chance = random.Random(142)
        for _ in range(300):
            pairs = tuple((chance.choice([0, 1, 2, 999, 1000]), chance.choice([None, 0, -5])) for _ in range(3))
            desk = self.fresh()
            line = "put abc 0 " + words_of_batch(pairs)
            if batch_by_words(pairs):
                self.assertEqual(desk.tell(line), "ok")
            else:
                self.assert_error(NoBatch, (), desk.tell, line)
                self.assertEqual(desk.undoable(), 3)


if __name__ == "__main__":
    unittest.main()
