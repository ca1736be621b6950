"""What the tests share: odd things of every kind, rows of feeds, and checks of errors."""

import itertools
import random
import unittest

from joinshelf import errors
from joinshelf.desks import Desk
from joinshelf.feeds import Feed
from joinshelf.stores import Store
from joinshelf.tasks import Task, task_of_sizes

BIG = 10 ** 60 - 1

F = Feed((((1, 5), (2, 7)), ((1, None),), ((2, 8), (3, 1))), (0,))

# The document's `t`.
T = task_of_sizes((1, 2, 1), 1)

# What each error class is made with.
FIELDS = {
    "BadFeed": ("part", "at"), "NoHour": (), "NoKey": (), "NoShelf": (), "NoTable": (), "TooMany": ("most",),
    "NoNumber": (), "NoPlan": (), "NoTree": (), "NoWide": (), "BadTask": ("part", "at"), "NoLooked": (),
    "NoSizes": (), "NoFloor": (), "NoRules": (), "NoPrice": (), "NoBurden": (), "NoAnswer": ("hour",),
    "NoBatch": (), "NothingDone": (), "BadText": ("line",), "NoLine": (), "NoName": ("name",),
}


def nested(kind, depth, core):
    """A thing with so many wrappings of a kind around a core."""
    thing = core
    for _ in range(depth):
        thing = {"tuple": (thing,), "pair": (0, thing), "list": [thing], "dict": {0: thing}}[kind]
    return thing


def package_objects():
    """An object of each class of the package, and the classes themselves."""
    classes = [getattr(errors, name) for name in FIELDS]
    made = [getattr(errors, name)(*fields) for name, fields in FIELDS.items()]
    filled = Store(2)
    filled.put(((1, 5),), 0)
    led = Desk()
    led.tell("store abc 3")
    objects = [F, T, Store(1), filled, Desk(), led, errors.ShelfError()]
    return made + classes + objects + [Feed, Task, Store, Desk, errors.ShelfError]


def plain_things():
    """Things of the built-in kinds, none of them a number."""
    def own(x):
        return x

    def yields():
        yield 0

    return [
        None, NotImplemented, Ellipsis, True, False,
        "", "0", "abc", "(0,)", b"", b"0", bytearray(b"\x00"), memoryview(b"\x00"),
        [], [0], [(0, 0)], [[0]], {}, {0: 0}, {(0, 0): [0]}, range(0), range(1), range(10 ** 50), slice(0, 1),
        object(), object, int, tuple, list, type, type(None), len, print, own, lambda: 0, yields, yields(),
        iter([]), iter(()), enumerate([0]), zip([0], [0]), map(str, [0]), filter(None, [0]), reversed([0]),
        {0: 0}.keys(), {0: 0}.items(), {0: 0}.values(), property(own), staticmethod(own), classmethod(own),
        "".join, [].append, own.__code__, random, ValueError(), ValueError, BaseException(), KeyError(0),
        type("Own", (), {}),
    ]


def tuple_things():
    """Tuples of wrong and right things."""
    return [
        (), (0,), (1,), (-1,), (True,), (False,), (None,), ("0",), ((),), ([],), ({},), (b"",), (F,), (0, True),
        (0, 0), (0, 1), (0, 0, 0), (0, None), (None, None), ((0, 0),), ((0, 0), (1, 1)), ([0, 0],), [(0, 0)],
        ((0, 0), [1, 1]), ((0, False),), ((False, 0),), ((None, None),), ((0,),), ((0,), (1,)), ((0,), (0, 1)),
        ((0, None),), ((0, 0), None), (BIG, -BIG), (0,) * 20000, ((),) * 20000, (None,) * 20000,
    ]


def deep_things():
    """Things that are nested 40 deep."""
    cores = (0, None, True, "x", (0, 0), [], F)
    kinds = ("tuple", "pair", "list", "dict")
    return [nested(kind, 39, core) for kind, core in itertools.product(kinds, cores)]


def odd_things():
    """Things of every kind; also numbers."""
    numbers = [0, 1, 2, 12, 40, 41, 60, 999, 1000, -1, BIG, -BIG]
    return numbers + plain_things() + tuple_things() + deep_things() + package_objects()


def has_flag(thing):
    """Whether a thing is a flag, or a tuple with one within it."""
    return isinstance(thing, bool) or (isinstance(thing, tuple) and any(has_flag(inner) for inner in thing))


def odd_keys():
    """Things of every kind that can be keys of a dict, without flags."""
    found = []
    for thing in odd_things():
        try:
            hash(thing)
        except TypeError:
            continue
        if not has_flag(thing):
            found.append(thing)
    return found


def is_int(thing):
    """Whether a thing is an integer, asked in another way than the package asks it."""
    return type(thing) is int


def rows_of_random_feeds(seed, many, hours, keys, pairs):
    """So many feeds of up to so many hours, with few keys, so that these come again."""
    chance = random.Random(seed)
    for _ in range(many):
        n = chance.randint(1, hours)
        batches = []
        for _ in range(n):
            told = sorted(chance.sample(range(keys), chance.randint(0, min(keys, pairs))))
            batches.append(tuple((key, chance.choice([None, None, 0, 1, -7, BIG])) for key in told))
        kept = tuple(hour for hour in range(n) if chance.random() < chance.choice([0.1, 0.5, 0.9]))
        yield Feed(tuple(batches), kept)


def full_feed(hours, kept):
    """A feed with 60 keys an hour, some of which come again and some of which are struck."""
    batches = []
    for hour in range(hours):
        keys = sorted({(hour * 37 + step * 13) % 1000 for step in range(60)})
        batches.append(tuple((key, None if (key + hour) % 5 == 0 else key * hour - 9) for key in keys))
    return Feed(tuple(batches), kept)


def shelves_to(last):
    """All shelves whose last run ends with the hour last."""
    for cuts in itertools.product((False, True), repeat=last):
        begins = [0] + [hour + 1 for hour, cut in enumerate(cuts) if cut]
        ends = [begin - 1 for begin in begins[1:]] + [last]
        yield tuple(zip(begins, ends))


def all_plans_by_words(hours):
    """All plans of so many hours, ascending, each with the tuples of the begins behind each hour."""
    found = [((), ())]
    for hour in range(hours):
        longer = []
        for plan, stands in found:
            ahead = stands[-1] if stands else ()
            for begin in ahead + (hour,):
                behind = tuple(other for other in ahead if other < begin) + (begin,)
                longer.append((plan + (begin,), stands + (behind,)))
        found = longer
    return found


def laid_out(hours, entry):
    """The tuple with, for each hour a, the tuple of the entries (a, m) for each hour m from a on."""
    return tuple(tuple(entry(a, m) for m in range(a, hours)) for a in range(hours))


def random_task(chance, hours, write, look):
    """A task of so many hours with random prices up to these."""
    return Task(laid_out(hours, lambda a, m: chance.randint(0, write)),
                laid_out(hours, lambda a, t: chance.randint(0, look)))


def even_task(hours, write, look):
    """A task whose stretches all cost write, and whose looks all cost look."""
    return Task(laid_out(hours, lambda a, m: write), laid_out(hours, lambda a, t: look))


def varied_tasks(seed, many, hours):
    """Tasks of 1 to so many hours, with dear and cheap prices, and such that are all alike or all 0."""
    chance = random.Random(seed)
    for n in range(1, hours + 1):
        yield from [even_task(n, 0, 0), even_task(n, 3, 0), even_task(n, 0, 2), even_task(n, 1, 1)]
        for _ in range(many):
            yield random_task(chance, n, chance.choice([1, 3, 50, 10 ** 9]), chance.choice([0, 1, 3, 50, 10 ** 9]))


def written_by_words(task, plan):
    """What each hour's writing costs."""
    return [task.writes[begin][hour - begin] for hour, begin in enumerate(plan)]


def looked_by_words(task, stands):
    """What each hour's looks cost, stands telling the begins behind each hour."""
    return [sum(task.looks[begin][hour - begin] for begin in begins) for hour, begins in enumerate(stands)]


def cost_by_words(task, plan, stands):
    """What a plan costs, stands telling the begins behind each hour."""
    return sum(written_by_words(task, plan)) + sum(looked_by_words(task, stands))


def fitting_plans(hours, most):
    """All plans of so many hours that never have more than so many runs, with their begins behind each hour."""
    return [told for told in all_plans_by_words(hours) if max(map(len, told[1])) <= most]


class Checks(unittest.TestCase):
    """Checks of errors and of judgements."""

    def assert_error(self, error, fields, function, *arguments):
        """The call raises just this error, with these fields, and changes no argument."""
        before = repr(arguments)
        with self.assertRaises(errors.ShelfError) as caught:
            function(*arguments)
        self.assertIs(type(caught.exception), error)
        names = FIELDS[error.__name__]
        self.assertEqual(tuple(getattr(caught.exception, name) for name in names), tuple(fields))
        self.assertEqual(repr(arguments), before)

    def assert_refused(self, error, fields, right, function):
        """The function raises the error for each odd thing that is not right, and none for the others."""
        for thing in odd_things():
            if right(thing):
                function(thing)
            else:
                with self.subTest(thing=repr(thing)[:200]):
                    self.assert_error(error, fields, function, thing)

    def assert_judged(self, right, function):
        """The function gives the flag that right gives, for each odd thing."""
        for thing in odd_things():
            with self.subTest(thing=repr(thing)[:200]):
                self.assertIs(function(thing), bool(right(thing)))
