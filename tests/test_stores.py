import random
import unittest

from joinshelf.errors import NoBatch, NoHour, NoKey, NoNumber, NothingDone, TooMany
from joinshelf.feeds import Feed, sight, value_at
from joinshelf.plans import shelf_behind, widest
from joinshelf.runs import look, run_of
from joinshelf.stores import Store
from tests.test_feeds import SIXTY, SIXTY_ONE, batch_by_words, is_int_from
from tests.test_leasts import is_from_1_to_30
from tests.test_runs import run_by_words
from tests.things import BIG, Checks, full_feed, is_int, nested, odd_things

A, B, C = ((1, 5), (2, 7)), ((1, None),), ((2, 8), (3, 1))


def filled(most, steps):
    """A store behind steps: pairs of a batch and of how many runs stay, or "keep"."""
    store = Store(most)
    for step in steps:
        if step == "keep":
            store.keep()
        else:
            store.put(*step)
    return store


def looks_of(store):
    """All that a store tells."""
    feed = store.feed()
    hours = () if feed is None else (*feed.kept, len(feed.batches) - 1)
    keys = (0, 1, 2, 3, 4, 5, 999)
    return (store.runs(), store.rows(), store.plan(), store.steps(), None if feed is None else (feed.batches, feed.kept),
            [store.look(key) for key in keys], [store.look_at(hour, key) for hour in hours for key in keys],
            store.stretch(0, 999))


def random_batch(chance):
    keys = sorted(chance.sample(range(6), chance.randint(0, 4)))
    return tuple((key, chance.choice([None, None, 0, 3, -8, BIG])) for key in keys)


class Model:
    """What a store keeps, told by the words of the document."""

    def __init__(self):
        self.batches, self.kept, self.plan, self.rows = (), (), (), 0

    def begins(self):
        found = []
        for begin in self.plan:
            found = [other for other in found if other < begin] + [begin]
        return found

    def after_put(self, batch, stay):
        later = Model()
        later.batches, later.kept = self.batches + (batch,), self.kept
        begins = self.begins()
        later.plan = self.plan + (begins[stay] if stay < len(begins) else len(self.batches),)
        later.rows = self.rows + len(run_by_words(later.feed(), later.plan[-1], len(self.batches)))
        return later

    def after_keep(self):
        later = Model()
        later.batches, later.plan, later.rows = self.batches, self.plan, self.rows
        later.kept = self.kept + (len(self.batches) - 1,)
        return later

    def feed(self):
        return Feed(self.batches, self.kept) if self.batches else None


class StoreTest(Checks):

    def assert_like(self, store, model, steps):
        """The store tells what the model does, its looks found from the feed and the shelf alone."""
        feed = model.feed()
        self.assertEqual(store.plan(), model.plan)
        self.assertEqual(store.rows(), model.rows)
        self.assertEqual(store.steps(), steps)
        if feed is None:
            self.assertIsNone(store.feed())
            self.assertEqual(store.runs(), [])
            return
        last = len(feed.batches) - 1
        self.assertTrue(store.feed() == feed)
        shelf = shelf_behind(model.plan, last)
        self.assertEqual(store.runs(), [run_by_words(feed, first, end) for first, end in shelf])
        self.assertEqual(store.runs(), [run_of(feed, first, end) for first, end in shelf])
        for key in (0, 1, 3, 5, 999):
            self.assertEqual(store.look(key), look(feed, shelf, last, key))
            self.assertEqual(store.look(key)[0], value_at(feed, last, key))
            for hour in {*feed.kept, last}:
                self.assertEqual(store.look_at(hour, key), look(feed, shelf, hour, key))
                self.assertEqual(store.look_at(hour, key)[0], value_at(feed, hour, key))
        for low, high in [(0, 999), (0, 0), (1, 3), (3, 1), (5, 5), (6, 999)]:
            seen = sight(feed, last)
            self.assertEqual(store.stretch(low, high), sorted((key, seen[key]) for key in seen if low <= key <= high))

    def test_by_hand(self):
        store = Store(3)
        self.assertIsNone(store.put(A, 0))
        self.assertEqual(store.runs(), [((1, 0, 5), (2, 0, 7))])
        self.assertIsNone(store.keep())
        store.put(B, 1)
        self.assertEqual(store.runs(), [((1, 0, 5), (2, 0, 7)), ((1, 1, None),)])
        self.assertEqual(store.look(1), (None, 1))
        self.assertEqual(store.look(2), (7, 2))
        self.assertEqual(store.look_at(0, 1), (5, 1))
        self.assertEqual(store.look_at(1, 1), (None, 1))
        store.put(C, 1)
        self.assertEqual(store.runs(), [((1, 0, 5), (2, 0, 7)), ((1, 1, None), (2, 2, 8), (3, 2, 1))])
        self.assertEqual(store.rows(), 2 + 1 + 3)
        self.assertEqual(store.plan(), (0, 1, 1))
        self.assertEqual(store.stretch(0, 999), [(2, 8), (3, 1)])
        self.assertEqual(store.stretch(3, 3), [(3, 1)])
        self.assertEqual(store.stretch(4, 2), [])
        self.assertTrue(store.feed() == Feed((A, B, C), (0,)))
        self.assertEqual(store.steps(), 4)
        store.put((), 0)
        self.assertEqual(store.runs(), [((1, 0, 5), (1, 1, None), (2, 0, 7), (2, 2, 8), (3, 2, 1))])
        self.assertEqual(store.rows(), 11)
        self.assertEqual(store.look(999), (None, 1))

    def test_empty_one(self):
        for most in (1, 30):
            store = Store(most)
            self.assertEqual(store.runs(), [])
            self.assertEqual(store.look(0), (None, 0))
            self.assertEqual(store.look(999), (None, 0))
            self.assertEqual(store.stretch(0, 999), [])
            self.assertEqual(store.stretch(5, 1), [])
            self.assertEqual(store.rows(), 0)
            self.assertIsNone(store.feed())
            self.assertEqual(store.plan(), ())
            self.assertEqual(store.steps(), 0)
            self.assert_error(NothingDone, (), store.back)
            self.assert_error(NoHour, (), store.keep)
            for hour in (0, -1, None):
                self.assert_error(NoHour, (), store.look_at, hour, 1)
            self.assertEqual(looks_of(store.copy()), looks_of(store))
            self.assertEqual(store.trying(lambda inner: inner.steps()), 0)

    def test_random_steps(self):
        for seed in range(40):
            chance = random.Random(seed)
            most = chance.choice([1, 2, 3, 5, 30])
            store, past = Store(most), [Model()]
            for _ in range(chance.choice([10, 25])):
                model = past[-1]
                turn = chance.random()
                if turn < 0.2 and model.batches and len(model.batches) - 1 not in model.kept:
                    store.keep()
                    past.append(model.after_keep())
                elif turn < 0.4 and len(past) > 1:
                    store.back()
                    past.pop()
                elif len(model.batches) < 40:
                    batch, stay = random_batch(chance), chance.randint(0, min(len(model.begins()), most - 1))
                    store.put(batch, stay)
                    past.append(model.after_put(batch, stay))
                self.assert_like(store, past[-1], len(past) - 1)
            while len(past) > 1:
                store.back()
                past.pop()
                self.assert_like(store, past[-1], len(past) - 1)
            self.assert_error(NothingDone, (), store.back)
            self.assert_like(store, past[-1], 0)

    def test_forty_batches(self):
        feed = full_feed(40, (0, 7, 20, 39))
        for most in (1, 2, 30):
            store, model = Store(most), Model()
            for hour, batch in enumerate(feed.batches):
                stay = min(len(model.begins()), most - 1)
                store.put(batch, stay)
                model = model.after_put(batch, stay)
                if hour in feed.kept:
                    store.keep()
                    model = model.after_keep()
            self.assert_like(store, model, 44)
            self.assertEqual(widest(store.plan()), most)
            self.assertEqual(len(store.runs()), most)
            before = looks_of(store)
            self.assert_error(TooMany, (40,), store.put, (), 0)
            self.assert_error(TooMany, (40,), store.put, SIXTY, most - 1)
            self.assertEqual(looks_of(store), before)
            # A batch that is none, or a wrong number, comes ahead of TooMany.
            self.assert_error(NoBatch, (), store.put, SIXTY_ONE, -1)
            self.assert_error(NoNumber, (), store.put, (), most)
            store.back()
            store.back()
            store.put(SIXTY, 0)
            self.assert_error(TooMany, (40,), store.put, (), 0)

    def test_stay_from_0_to_all(self):
        for most in (1, 2, 3, 30):
            store = Store(most)
            for runs in range(0, min(most, 6) + 1):
                allowed = range(0, min(runs, most - 1) + 1)
                for stay in [-1, 0, 1, 2, 3, 4, 5, 6, 7, 29, 30, 31]:
                    if stay in allowed:
                        self.assertEqual(store.trying(lambda inner: (inner.put(B, stay), len(inner.runs())))[1], stay + 1)
                    else:
                        self.assert_error(NoNumber, (), store.put, B, stay)
                self.assertEqual(len(store.runs()), runs)
                if runs < most:
                    store.put(A, runs)

    def test_keep(self):
        store = filled(2, [(A, 0), (B, 1)])
        store.keep()
        self.assertEqual(store.feed().kept, (1,))
        before = looks_of(store)
        self.assert_error(NoHour, (), store.keep)
        self.assertEqual(looks_of(store), before)
        store.back()
        store.keep()
        store.put(C, 0)
        store.keep()
        self.assertEqual(store.feed().kept, (1, 2))
        self.assert_error(NoHour, (), store.keep)
        self.assertEqual(store.steps(), 5)

    def test_keep_changes_no_run(self):
        for seed in range(30):
            chance = random.Random(1000 + seed)
            store = Store(3)
            for _ in range(10):
                store.put(random_batch(chance), chance.randint(0, min(len(store.runs()), 2)))
                runs, rows = store.runs(), store.rows()
                if chance.random() < 0.5:
                    store.keep()
                self.assertEqual((store.runs(), store.rows()), (runs, rows))

    def test_sights_never_change(self):
        for seed in range(20):
            chance = random.Random(2000 + seed)
            store, known = Store(4), {}
            for hour in range(14):
                store.put(random_batch(chance), chance.randint(0, min(len(store.runs()), 3)))
                if chance.random() < 0.5:
                    store.keep()
                    known[hour] = [store.look(key)[0] for key in range(6)]
                    self.assertEqual(store.stretch(0, 5), [(key, value) for key, value in enumerate(known[hour])
                                                           if value is not None])
                for at, values in known.items():
                    self.assertEqual([store.look_at(at, key)[0] for key in range(6)], values)

    def test_hours_that_are_not_askable(self):
        store = filled(3, [(A, 0), "keep", (B, 1), (C, 2)])
        for hour in (1, 3, -1, True, False, None, "0", (0,), BIG):
            self.assert_error(NoHour, (), store.look_at, hour, 1)
        self.assertEqual(store.look_at(0, 1), (5, 1))
        self.assertEqual(store.look_at(2, 1), (None, 2))
        store.back()
        self.assertEqual(store.look_at(1, 2), (7, 2))
        self.assert_error(NoHour, (), store.look_at, 2, 1)

    def test_each_list_is_new(self):
        store = filled(3, [(A, 0), (B, 1)])
        known = looks_of(store)
        store.runs().append("x")
        store.runs().clear()
        store.stretch(0, 999).append("x")
        self.assertEqual(looks_of(store), known)
        Store(3).runs().append("x")
        self.assertEqual(Store(3).runs(), [])
        Store(3).stretch(0, 1).append("x")
        self.assertEqual(Store(3).stretch(0, 1), [])

    def test_equal_to_nothing_else(self):
        store = filled(3, [(A, 0)])
        for thing in odd_things():
            self.assertFalse(store == thing)


class BackTest(Checks):

    def test_step_by_step(self):
        steps = [(A, 0), "keep", (B, 1), (C, 0), "keep", ((), 1)]
        store = filled(3, steps)
        for many in range(len(steps) - 1, -1, -1):
            self.assertIsNone(store.back())
            self.assertEqual(looks_of(store), looks_of(filled(3, steps[:many])))
            self.assertEqual(store.steps(), many)
        for _ in range(2):
            self.assert_error(NothingDone, (), store.back)
            self.assertEqual(looks_of(store), looks_of(Store(3)))
        store.put(C, 0)
        self.assertEqual(store.runs(), [((2, 0, 8), (3, 0, 1))])

    def test_errors_are_no_steps(self):
        store = filled(2, [(A, 0)])
        for function, arguments in [(store.put, (None, 0)), (store.put, (A, 2)), (store.look, (None,)),
                                    (store.look_at, (1, 1)), (store.stretch, (0, 1000))]:
            with self.assertRaises(ValueError):
                function(*arguments)
        self.assertEqual(store.steps(), 1)
        store.look(1)
        store.runs()
        self.assertEqual(store.steps(), 1)
        store.back()
        self.assertEqual(store.steps(), 0)


class CopyTest(Checks):

    def test_goes_on_apart(self):
        steps = [(A, 0), "keep", (B, 1)]
        store = filled(3, steps)
        other = store.copy()
        self.assertIs(type(other), Store)
        self.assertIsNot(other, store)
        self.assertEqual(looks_of(other), looks_of(store))
        other.put(C, 2)
        other.keep()
        self.assertEqual(looks_of(store), looks_of(filled(3, steps)))
        self.assertEqual(looks_of(other), looks_of(filled(3, steps + [(C, 2), "keep"])))
        store.back()
        store.put(A, 0)
        self.assertEqual(looks_of(other), looks_of(filled(3, steps + [(C, 2), "keep"])))
        for many in (4, 3, 2, 1, 0):
            other.back()
            self.assertEqual(looks_of(other), looks_of(filled(3, (steps + [(C, 2), "keep"])[:many])))
        self.assert_error(NothingDone, (), other.back)
        self.assertEqual(looks_of(store), looks_of(filled(3, steps[:2] + [(A, 0)])))

    def test_has_as_many_runs_at_most(self):
        other = filled(2, [(A, 0), (B, 1)]).copy()
        self.assert_error(NoNumber, (), other.put, C, 2)
        other.put(C, 1)
        wide = Store(3).copy()
        for stay in (0, 1, 2):
            wide.put(A, stay)
        self.assert_error(NoNumber, (), wide.put, A, 3)


class TryingTest(Checks):

    def test_returns_what_is_returned(self):
        store = filled(3, [(A, 0)])
        for thing in odd_things():
            self.assertIs(store.trying(lambda inner: thing), thing)
        self.assertIs(store.trying(lambda inner: inner), store)
        self.assertIsNone(store.trying(lambda inner: inner.put(B, 0)))

    def test_puts_everything_back(self):
        steps = [(A, 0), "keep", (B, 1)]
        store = filled(3, steps)
        before = looks_of(store)

        def action(inner):
            inner.put(C, 2)
            inner.keep()
            told = looks_of(inner)
            self.assertEqual(told, looks_of(filled(3, steps + [(C, 2), "keep"])))
            while inner.steps():
                inner.back()
            self.assertEqual(looks_of(inner), looks_of(Store(3)))
            inner.put(C, 0)
            return told[0]

        self.assertEqual(len(store.trying(action)), 3)
        self.assertEqual(looks_of(store), before)
        for many in (2, 1, 0):
            store.back()
            self.assertEqual(looks_of(store), looks_of(filled(3, steps[:many])))

    def test_errors_go_on(self):
        class Own(BaseException):
            pass

        store = filled(3, [(A, 0), (B, 1)])
        before = looks_of(store)
        for error in (Own, ValueError, KeyError, NoHour):
            def action(inner):
                inner.back()
                inner.put(C, 0)
                raise error()

            with self.assertRaises(error):
                store.trying(action)
            self.assertEqual(looks_of(store), before)

        def fails(inner):
            inner.put(C, 2)
            inner.put(C, 9)

        self.assert_error(NoNumber, (), store.trying, fails)
        self.assertEqual(looks_of(store), before)

    def test_trials_within_trials(self):
        store = filled(3, [(A, 0)])
        before = looks_of(store)

        def inmost(inner):
            inner.back()
            inner.back()
            inner.put(C, 0)
            return looks_of(inner)

        def action(inner):
            inner.put(B, 1)
            within = looks_of(inner)
            self.assertEqual(inner.trying(inmost), looks_of(filled(3, [(C, 0)])))
            self.assertEqual(looks_of(inner), within)
            with self.assertRaises(NothingDone):
                inner.trying(lambda deeper: [deeper.back() for _ in range(9)])
            self.assertEqual(looks_of(inner), within)
            inner.put(C, 0)
            return looks_of(inner)

        self.assertEqual(store.trying(action), looks_of(filled(3, [(A, 0), (B, 1), (C, 0)])))
        self.assertEqual(looks_of(store), before)

    def test_deep_trials(self):
        store = filled(3, [(A, 0)])

        def deeper(inner):
            inner.put(B, 0)
            return inner.trying(deeper) if inner.steps() < 30 else inner.steps()

        self.assertEqual(store.trying(deeper), 30)
        self.assertEqual(looks_of(store), looks_of(filled(3, [(A, 0)])))

    def test_copies_made_in_a_trial(self):
        store = filled(3, [(A, 0)])

        def action(inner):
            inner.put(B, 1)
            return inner.copy()

        other = store.trying(action)
        self.assertEqual(looks_of(store), looks_of(filled(3, [(A, 0)])))
        self.assertEqual(looks_of(other), looks_of(filled(3, [(A, 0), (B, 1)])))
        other.put(C, 2)
        store.put(C, 0)
        self.assertEqual(looks_of(other), looks_of(filled(3, [(A, 0), (B, 1), (C, 2)])))
        for _ in range(3):
            other.back()
        self.assertEqual(other.steps(), 0)
        self.assertEqual(looks_of(store), looks_of(filled(3, [(A, 0), (C, 0)])))

    def test_steps_behind_a_trial(self):
        store = filled(3, [(A, 0)])
        store.trying(lambda inner: inner.put(B, 0))
        store.put(C, 1)
        self.assertEqual(store.steps(), 2)
        store.back()
        self.assertEqual(looks_of(store), looks_of(filled(3, [(A, 0)])))
        store.trying(lambda inner: inner.back())
        self.assertEqual(looks_of(store), looks_of(filled(3, [(A, 0)])))


class WrongTest(Checks):

    def test_wrong_most(self):
        self.assert_refused(NoNumber, (), is_from_1_to_30, Store)
        for most in (0, 31, -1, True, False, None, "1", (1,), [1], BIG, nested("list", 40, 1)):
            self.assert_error(NoNumber, (), Store, most)

    def assert_unchanged(self, store, error, right, function):
        """The function raises the error for each odd thing that is not right, and changes nothing then."""
        before = looks_of(store)
        for thing in odd_things():
            if not right(thing):
                self.assert_error(error, (), function, thing)
        self.assertEqual(looks_of(store), before)

    def test_things_of_every_kind(self):
        for store in (Store(2), filled(2, [(A, 0), "keep", (B, 1), (C, 1)])):
            runs = len(store.runs())
            self.assert_unchanged(store, NoBatch, batch_by_words, lambda thing: store.put(thing, 0))
            self.assert_unchanged(store, NoNumber, is_int_from(0, min(runs, 1)), lambda thing: store.put(A, thing))
            self.assert_unchanged(store, NoKey, is_int_from(0, 999), store.look)
            self.assert_unchanged(store, NoKey, is_int_from(0, 999), lambda thing: store.stretch(thing, 5))
            self.assert_unchanged(store, NoKey, is_int_from(0, 999), lambda thing: store.stretch(5, thing))
            self.assert_unchanged(store, NoHour, lambda thing: runs and is_int(thing) and thing in (0, 2),
                                  lambda thing: store.look_at(thing, 1))
            if runs:
                self.assert_unchanged(store, NoKey, is_int_from(0, 999), lambda thing: store.look_at(0, thing))
                self.assert_unchanged(store, NoBatch, lambda thing: batch_by_words((thing,)),
                                      lambda thing: store.put((thing,), 0))

    def test_order_of_errors(self):
        wrong = nested("list", 40, 0)
        for store in (Store(2), filled(2, [(A, 0), (B, 1)])):
            before = looks_of(store)
            self.assert_error(NoBatch, (), store.put, wrong, wrong)
            self.assert_error(NoNumber, (), store.put, A, wrong)
            self.assert_error(NoHour, (), store.look_at, wrong, wrong)
            self.assert_error(NoHour, (), store.look_at, 7, 1000)
            self.assert_error(NoKey, (), store.stretch, wrong, wrong)
            self.assert_error(NoKey, (), store.stretch, 0, -1)
            self.assert_error(NoKey, (), store.stretch, 1000, 0)
            self.assert_error(NoKey, (), store.look, True)
            self.assertEqual(looks_of(store), before)


if __name__ == "__main__":
    unittest.main()
