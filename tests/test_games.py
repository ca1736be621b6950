import itertools
import unittest
from fractions import Fraction
from math import gcd

from joinshelf.burdens import least_writing
from joinshelf.errors import NoNumber, NoPrice, TooMany
from joinshelf.games import foes_book, is_foes_book, is_keepers_book, keepers_book, surest
from joinshelf.keepers import led, worst
from tests.test_burdens import written_sizes
from tests.test_feeds import is_int_from
from tests.test_keepers import rows_by_words
from tests.things import BIG, Checks, fitting_plans, is_int, nested, odd_keys, odd_things

# All games with at most 400 rows of just so many sizes.
GAMES = [(most, hours, size) for most in range(1, 5) for hours in range(1, 7) for size in range(1, 5)
         if size ** hours <= 400]
SMALL = [(most, hours, size) for most, hours, size in GAMES if size ** hours <= 32]

RIGHT = {"keeper": is_keepers_book, "foe": is_foes_book}


def price_by_words(thing):
    if type(thing) is not tuple or len(thing) != 2 or not is_int(thing[0]) or not is_int(thing[1]):
        return False
    return thing[0] >= 0 and thing[1] >= 1 and gcd(*thing) == 1


def pair_of(ratio):
    return (ratio.numerator, ratio.denominator)


def just_below(ratio):
    """A fraction that is less, and greater than all other ratios that can come in a game."""
    return pair_of(Fraction(*ratio) - Fraction(1, 10 ** 9))


LEASTS = {}


def least_by_words(row, most):
    if (row, most) not in LEASTS:
        plans = [plan for plan, _ in fitting_plans(len(row), most)]
        LEASTS[row, most] = min(written_sizes(row, plan) for plan in plans)
    return LEASTS[row, most]


def ratio_by_words(row, most, plan):
    return Fraction(written_sizes(row, plan), least_by_words(row, most))


def plan_by_answers(most, answers):
    """The plan to which answers lead, None if one of them can't be given."""
    plan, begins = [], []
    for hour, stay in enumerate(answers):
        if not is_int(stay) or not 0 <= stay <= len(begins) or stay >= most:
            return None
        begins = begins[:stay] + ([hour] if stay == len(begins) else [begins[stay]])
        plan.append(begins[-1])
    return tuple(plan)


def greatest_of_book(most, hours, size, book):
    """The greatest ratio to which a keeper's book leads, None for what is no book whatever the ratio."""
    if type(book) is not dict or set(map(repr, book)) != set(map(repr, rows_by_words(hours, size))):
        return None
    found = Fraction(0)
    for row in rows_by_words(hours, size):
        plan = plan_by_answers(most, [book[row[:many]] for many in range(1, len(row) + 1)])
        if plan is None:
            return None
        found = max(found, ratio_by_words(row, most, plan))
    return found


def keepers_by_words(most, hours, size, ratio, book):
    greatest = greatest_of_book(most, hours, size, book)
    return greatest is not None and greatest <= Fraction(*ratio)


def foes_by_words(most, hours, size, ratio, book):
    if type(book) is not dict:
        return False
    coming = {()}
    met = set()
    while coming:
        given = coming.pop()
        if given not in book or not is_int(book[given]) or not 0 <= book[given] <= size:
            return False
        met.add(given)
        row = tuple(book[given[:many]] for many in range(len(given)))
        if book[given] == 0:
            if not row or ratio_by_words(row, most, plan_by_answers(most, given)) <= Fraction(*ratio):
                return False
        elif len(given) == hours:
            return False
        else:
            later = [given + (stay,) for stay in range(hours + 1)]
            coming |= {answers for answers in later if plan_by_answers(most, answers) is not None}
    return len(met) == len(book)


def keeper_holds(most, hours, size, ratio, row=(), given=()):
    """Whether the keeper can hold the ratio from here on, each answer tried."""
    if row and ratio_by_words(row, most, plan_by_answers(most, given)) > ratio:
        return False
    if len(row) == hours:
        return True
    for told in range(1, size + 1):
        later = [given + (stay,) for stay in range(len(given) + 1)]
        held = [answers for answers in later if plan_by_answers(most, answers) is not None
                and keeper_holds(most, hours, size, ratio, row + (told,), answers)]
        if not held:
            return False
    return True


class SurestTest(Checks):

    def test_example_e11(self):
        self.assertEqual(surest(2, 3, 2), (6, 5))
        self.assertEqual(surest(2, 4, 1), (7, 6))

    def test_by_hand(self):
        # One run leaves nothing to choose, and with as many runs as hours each batch stands alone.
        for hours, size in [(1, 4), (2, 3), (4, 4), (6, 2)]:
            self.assertEqual(surest(1, hours, size), (1, 1))
        for hours in (1, 2, 3, 4):
            for most in range(hours, 5):
                self.assertEqual(surest(most, hours, 2), (1, 1))

    def test_each_answer_tried(self):
        for most, hours, size in SMALL:
            top, bottom = surest(most, hours, size)
            self.assertEqual(gcd(top, bottom), 1)
            ratio = Fraction(top, bottom)
            self.assertTrue(keeper_holds(most, hours, size, ratio))
            self.assertFalse(keeper_holds(most, hours, size, ratio - Fraction(1, 10 ** 9)))

    def test_all_books_gone_through(self):
        for most, hours, size in [(2, 3, 1), (3, 4, 1), (2, 4, 1), (2, 2, 2), (2, 3, 2)]:
            rows = rows_by_words(hours, size)
            books = [dict(zip(rows, answers))
                     for answers in itertools.product(*[range(min(most, len(row))) for row in rows])]
            found = [greatest_of_book(most, hours, size, book) for book in books]
            best = min(ratio for ratio in found if ratio is not None)
            self.assertEqual(pair_of(best), surest(most, hours, size))
            for book, ratio in zip(books[:300], found[:300]):
                for tried in (best, Fraction(1), Fraction(3, 2), Fraction(2)):
                    self.assertIs(is_keepers_book(most, hours, size, pair_of(tried), book),
                                  ratio is not None and ratio <= tried)

    def test_no_keeper_of_worst_is_better(self):
        for most, hours, size in [(2, 3, 2), (2, 6, 1), (3, 6, 1), (2, 4, 3), (3, 5, 2)]:
            sure = Fraction(*surest(most, hours, size))
            book = keepers_book(most, hours, size, pair_of(sure))
            self.assertEqual(worst(most, lambda sizes, shelf: book[sizes], hours, size)[0], pair_of(sure))
            for keeper in (lambda sizes, shelf: 0, lambda sizes, shelf: min(len(shelf), most - 1)):
                self.assertGreaterEqual(Fraction(*worst(most, keeper, hours, size)[0]), sure)

    def test_longer_and_greater_rows_are_no_better(self):
        found = {game: Fraction(*surest(*game)) for game in GAMES}
        for most, hours, size in GAMES:
            self.assertGreaterEqual(found[most, hours, size], 1)
            for more in [(most, hours + 1, size), (most, hours, size + 1)]:
                if more in found:
                    self.assertGreaterEqual(found[more], found[most, hours, size])


class BooksTest(Checks):

    def assert_books(self, most, hours, size, ratio, keeper_wins):
        kept, told = keepers_book(most, hours, size, ratio), foes_book(most, hours, size, ratio)
        # The sixth fact: just one of both is there.
        self.assertEqual(kept is not None, keeper_wins)
        self.assertEqual(told is None, keeper_wins)
        for thing in (kept, told, {}):
            self.assertIs(is_keepers_book(most, hours, size, ratio, thing), keeper_wins and thing is kept)
            self.assertIs(is_foes_book(most, hours, size, ratio, thing), thing is told and not keeper_wins)
        self.assertIs(keepers_by_words(most, hours, size, ratio, kept), keeper_wins)
        self.assertIs(foes_by_words(most, hours, size, ratio, told), not keeper_wins)

    def test_from_surest_on(self):
        for most, hours, size in GAMES:
            ratio = surest(most, hours, size)
            self.assert_books(most, hours, size, ratio, True)
            self.assert_books(most, hours, size, just_below(ratio), False)

    def test_other_ratios(self):
        for most, hours, size in SMALL:
            sure = Fraction(*surest(most, hours, size))
            for ratio in [(0, 1), (1, 2), (1, 1), (7, 6), (6, 5), (5, 4), (4, 3), (3, 2), (2, 1), (BIG, 1), (1, BIG)]:
                self.assert_books(most, hours, size, ratio, Fraction(*ratio) >= sure)

    def test_ratios_0_and_1(self):
        self.assertEqual(foes_book(2, 1, 1, (0, 1)), {(): 1, (0,): 0})
        self.assertIsNone(keepers_book(2, 1, 1, (0, 1)))
        self.assertEqual(keepers_book(2, 2, 1, (1, 1)), {(1,): 0, (1, 1): 1})
        self.assertEqual(keepers_book(1, 2, 2, (1, 1)), {row: 0 for row in rows_by_words(2, 2)})
        for book, right in [({(): 1, (0,): 0}, True), ({(): 1}, False), ({(): 0}, False), ({(): 2, (0,): 0}, False),
                            ({(): 1, (0,): 1}, False), ({(): 1, (0,): 0, (0, 0): 0}, False), ({}, False),
                            ({(0,): 0}, False), ({(): 1, (1,): 0}, False), ({(): 1, (0,): 0, (1,): 0}, False)]:
            self.assertIs(is_foes_book(2, 1, 1, (0, 1), book), right, book)
            self.assertIs(is_foes_book(2, 1, 1, (1, 1), book), False, book)

    def test_each_dict_is_new(self):
        for function, ratio in [(keepers_book, (6, 5)), (foes_book, (1, 1))]:
            known = function(2, 3, 2, ratio)
            again = function(2, 3, 2, ratio)
            self.assertEqual(known, again)
            known.clear()
            self.assertEqual(function(2, 3, 2, ratio), again)

    def test_kinds_in_books(self):
        for most, hours, size in SMALL:
            ratio = surest(most, hours, size)
            for book in (keepers_book(most, hours, size, ratio), foes_book(most, hours, size, just_below(ratio))):
                for key, value in book.items():
                    self.assertIs(type(key), tuple)
                    self.assertTrue(all(is_int(number) for number in key))
                    self.assertTrue(is_int(value))


class SpoiltTest(Checks):
    """Books with one thing that is not right, and such that are right in another way."""

    GAMES = [("keeper", 2, 3, 2), ("foe", 2, 3, 2), ("keeper", 3, 5, 1), ("foe", 3, 5, 1), ("keeper", 2, 4, 2),
             ("foe", 2, 4, 2), ("foe", 3, 4, 3), ("foe", 3, 6, 1), ("keeper", 4, 4, 2)]

    def told(self):
        """For each of the games: who wins, the bounds and the ratio, and a right book."""
        for who, most, hours, size in self.GAMES:
            ratio = surest(most, hours, size)
            if who == "keeper":
                yield who, (most, hours, size, ratio), keepers_book(most, hours, size, ratio)
            else:
                low = just_below(ratio)
                yield who, (most, hours, size, low), foes_book(most, hours, size, low)

    def assert_as_words(self, who, game, book):
        words = {"keeper": keepers_by_words, "foe": foes_by_words}[who]
        right = words(*game, book)
        self.assertIs(RIGHT[who](*game, book), right, book)
        return right

    def test_one_key_left_out(self):
        for who, game, book in self.told():
            self.assertIs(RIGHT[who](*game, dict(book)), True)
            for key in book:
                less = {other: book[other] for other in book if other != key}
                self.assertIs(RIGHT[who](*game, less), False)

    def test_one_key_more(self):
        for who, game, book in self.told():
            most, hours, size, _ = game
            others = [(), (0,), (0, 0), (0, 1), (1,), (size + 1,), (1,) * (hours + 1), (0,) * (hours + 1), (1, -1),
                      0, 1, "", "0", None, ((),), ((1,),), b"1", (None,), ("1",)]
            for key in others:
                if key not in book:
                    for value in (0, 1):
                        self.assertIs(RIGHT[who](*game, {**book, key: value}), False, key)

    def test_one_key_in_the_place_of_another(self):
        for who, game, book in self.told():
            for key in list(book)[::5]:
                for other in [key + (0,), key + (9,), list(key)[:-1].__repr__(), "1", 1, None]:
                    if other not in book:
                        swapped = {(other if told == key else told): book[told] for told in book}
                        self.assertIs(RIGHT[who](*game, swapped), False)

    def test_another_answer_or_size(self):
        met = {True: 0, False: 0}
        for who, game, book in self.told():
            for key in book:
                for value in [-1, 0, 1, 2, 3, 4, 5]:
                    if value != book[key]:
                        met[self.assert_as_words(who, game, {**book, key: value})] += 1
                for value in [True, False, None, "0", (0,), [0], BIG, -BIG, {}, nested("tuple", 40, 0)]:
                    self.assertIs(RIGHT[who](*game, {**book, key: value}), False)
        self.assertGreater(min(met.values()), 10)

    def test_a_0_too_early(self):
        for who, game, book in self.told():
            if who == "foe":
                self.assertIs(is_foes_book(*game, {(): 0}), False)
                self.assertIs(is_foes_book(*game, {**book, (): 0}), False)
                for key in book:
                    # The foe stops here, and what would come later is left out.
                    early = {other: told for other, told in book.items() if other[:len(key)] != key or other == key}
                    early[key] = 0
                    self.assertIs(self.assert_as_words(who, game, early), book[key] == 0)

    def test_no_0_behind_all_hours(self):
        for who, game, book in self.told():
            if who == "foe":
                last = [key for key in book if len(key) == game[1]]
                for key in last:
                    self.assertEqual(book[key], 0)
                    for size in range(1, game[2] + 1):
                        self.assertIs(is_foes_book(*game, {**book, key: size}), False)
                        later = {key + (stay,): 0 for stay in range(game[0])}
                        self.assertIs(is_foes_book(*game, {**book, key: size, **later}), False)

    def test_just_more_than_the_ratio(self):
        # At each 0 the cost is more than the ratio times the least cost, and not as much.
        for most, hours, size in [(2, 3, 2), (2, 4, 1), (3, 5, 1)]:
            ratio = surest(most, hours, size)
            low = just_below(ratio)
            self.assertIs(is_foes_book(most, hours, size, low, foes_book(most, hours, size, low)), True)
            self.assertIs(is_foes_book(most, hours, size, ratio, foes_book(most, hours, size, low)), False)
            book = keepers_book(most, hours, size, ratio)
            self.assertIs(is_keepers_book(most, hours, size, low, book), False)
            self.assertIs(is_keepers_book(most, hours, size, ratio, book), True)

    def test_books_of_other_games(self):
        books = [(game, book) for who, game, book in self.told()]
        for who, game, _ in self.told():
            for other, book in books:
                self.assert_as_words(who, game, book)

    def test_right_books_of_others(self):
        # A foe who stops as late as it can, where that does not harm it.
        book = {(): 1, (0,): 1, (0, 0): 0, (0, 1): 0}
        self.assertIs(is_foes_book(2, 2, 1, (0, 1), book), True)
        self.assertIs(is_foes_book(2, 2, 2, (0, 1), {(): 2, (0,): 1, (0, 0): 0, (0, 1): 0}), True)
        self.assertIs(is_foes_book(1, 2, 1, (0, 1), {(): 1, (0,): 1, (0, 0): 0}), True)
        self.assertIs(is_foes_book(1, 2, 1, (0, 1), book), False)
        for ratio in [(3, 2), (2, 1), (BIG, 1)]:
            self.assertIs(is_keepers_book(2, 2, 1, ratio, {(1,): 0, (1, 1): 0}), True)
        self.assertIs(is_keepers_book(2, 2, 1, (4, 3), {(1,): 0, (1, 1): 0}), False)
        for rows, many in [((1, 1, 1, 1, 1), 3), ((2, 1, 2), 2), ((1,), 1)]:
            self.assertEqual(least_by_words(rows, many), least_writing(rows, many))
            self.assertEqual(led(rows, many, lambda sizes, shelf: 0), (0,) * len(rows))


    def test_foes_who_never_stop_early(self):
        for most, hours, size in SMALL:
            rows = [[()]]
            wrong = []
            for _ in range(hours):
                tried = [given + (stay,) for given in rows[-1] for stay in range(-1, hours + 1)]
                rows.append([given for given in tried if plan_by_answers(most, given) is not None])
                wrong += [given for given in tried if given not in rows[-1]]
            told = {given: 0 if many == hours else 1 + many % size for many, row in enumerate(rows) for given in row}
            self.assertEqual(len(rows[-1]), len(fitting_plans(hours, most)))
            self.assertIs(foes_by_words(most, hours, size, (0, 1), told), True)
            self.assertIs(is_foes_book(most, hours, size, (0, 1), told), True)
            for given in wrong[::len(wrong) // 100 + 1]:
                self.assertIs(is_foes_book(most, hours, size, (0, 1), {**told, given: 0}), False)


class WrongTest(Checks):

    def calls(self):
        return [lambda most, hours, size, ratio: keepers_book(most, hours, size, ratio),
                lambda most, hours, size, ratio: foes_book(most, hours, size, ratio),
                lambda most, hours, size, ratio: is_keepers_book(most, hours, size, ratio, None),
                lambda most, hours, size, ratio: is_foes_book(most, hours, size, ratio, None)]

    def test_wrong_numbers(self):
        calls = self.calls() + [lambda most, hours, size, ratio: surest(most, hours, size)]
        for call in calls:
            self.assert_refused(NoNumber, (), is_int_from(1, 4), lambda thing: call(thing, 2, 2, (1, 1)))
            self.assert_refused(NoNumber, (), is_int_from(1, 6), lambda thing: call(2, thing, 1, (1, 1)))
            self.assert_refused(NoNumber, (), is_int_from(1, 4), lambda thing: call(2, 2, thing, (1, 1)))
            for most, hours, size in [(0, 1, 1), (5, 1, 1), (1, 0, 1), (1, 7, 1), (1, 1, 0), (1, 1, 5), (5, 6, 4),
                                      (4, 7, 4), (4, 6, 5), (True, 6, 4), (4, True, 4), (4, 6, True), (30, 2, 2)]:
                self.assert_error(NoNumber, (), call, most, hours, size, (1, 1))
                self.assert_error(NoNumber, (), call, most, hours, size, (2, 2))

    def test_wrong_ratios(self):
        for call in self.calls():
            self.assert_refused(NoPrice, (), price_by_words, lambda thing: call(2, 2, 1, thing))
            self.assert_refused(NoPrice, (), lambda thing: price_by_words((thing, 1)),
                                lambda thing: call(2, 2, 1, (thing, 1)))
            self.assert_refused(NoPrice, (), lambda thing: price_by_words((1, thing)),
                                lambda thing: call(2, 2, 1, (1, thing)))
            for ratio in [(2, 2), (0, 2), (4, 6), (1, 0), (0, 0), (1, -1), (-1, 1), (-1, -1), (6, -5), [6, 5], (6,),
                          (6, 5, 1), (True, 1), (1, True), (False, 1), 1, "11", None, (BIG, BIG), ((1, 1),)]:
                self.assert_error(NoPrice, (), call, 2, 3, 2, ratio)
                self.assert_error(NoPrice, (), call, 4, 6, 4, ratio)
            for ratio in [(0, 1), (1, BIG), (BIG, 1), (BIG, BIG - 1), (1, 2), (2, 1)]:
                call(2, 2, 2, ratio)

    def test_four_hundred_rows_and_more(self):
        for most in range(1, 5):
            for hours in range(1, 7):
                for size in range(1, 5):
                    if size ** hours > 400:
                        self.assert_error(TooMany, (400,), surest, most, hours, size)
                        for call in self.calls():
                            self.assert_error(TooMany, (400,), call, most, hours, size, (1, 1))
                            self.assert_error(NoPrice, (), call, most, hours, size, (2, 2))
                    else:
                        self.assertTrue(price_by_words(surest(most, hours, size)))
        self.assertEqual(len([game for game in GAMES if game[2] ** game[1] in (243, 256)]), 8)

    def test_things_that_are_no_books(self):
        kept, told = keepers_book(2, 2, 1, (1, 1)), foes_book(2, 1, 1, (0, 1))
        self.assert_judged(lambda thing: False, lambda thing: is_keepers_book(2, 2, 1, (1, 1), thing))
        self.assert_judged(lambda thing: False, lambda thing: is_foes_book(2, 1, 1, (0, 1), thing))
        self.assert_judged(lambda thing: is_int(thing) and thing == 1,
                           lambda thing: is_keepers_book(2, 2, 1, (1, 1), {(1,): 0, (1, 1): thing}))
        self.assert_judged(lambda thing: is_int(thing) and thing == 0,
                           lambda thing: is_keepers_book(2, 2, 1, (1, 1), {(1,): thing, (1, 1): 1}))
        self.assert_judged(lambda thing: is_int(thing) and thing == 0,
                           lambda thing: is_foes_book(2, 1, 1, (0, 1), {(): 1, (0,): thing}))
        self.assert_judged(lambda thing: is_int(thing) and thing == 1,
                           lambda thing: is_foes_book(2, 1, 1, (0, 1), {(): thing, (0,): 0}))
        for book in (kept, told):
            for thing in [list(book.items()), tuple(book.items()), [book], str(book), set(book).__repr__()]:
                self.assertIs(is_keepers_book(2, 2, 1, (1, 1), thing), False)
                self.assertIs(is_foes_book(2, 1, 1, (0, 1), thing), False)

    def test_keys_of_every_kind(self):
        kept, told = keepers_book(2, 2, 1, (1, 1)), foes_book(2, 1, 1, (0, 1))
        keys = odd_keys()
        self.assertGreater(len(keys), 100)
        for key in keys + [nested("tuple", 40, 1), nested("pair", 40, 0), (1,) * 20000]:
            for within in (key, (key,), (1, key), (0, key)):
                if within not in kept:
                    self.assertIs(is_keepers_book(2, 2, 1, (1, 1), {**kept, within: 0}), False)
                    self.assertIs(is_keepers_book(2, 2, 1, (1, 1), {(1,): 0, within: 1}), False)
                if within not in told:
                    self.assertIs(is_foes_book(2, 1, 1, (0, 1), {**told, within: 0}), False)
                    self.assertIs(is_foes_book(2, 1, 1, (0, 1), {(): 1, within: 0}), False)

    def test_order_of_errors(self):
        wrong = nested("dict", 40, 0)
        for call in self.calls():
            self.assert_error(NoNumber, (), call, wrong, 2, 2, wrong)
            self.assert_error(NoNumber, (), call, 2, wrong, 2, wrong)
            self.assert_error(NoNumber, (), call, 2, 6, wrong, wrong)
            self.assert_error(NoPrice, (), call, 2, 6, 4, wrong)
        for thing in odd_things()[:80]:
            self.assert_error(TooMany, (400,), is_keepers_book, 2, 6, 4, (1, 1), thing)
            self.assert_error(TooMany, (400,), is_foes_book, 2, 6, 4, (1, 1), thing)


if __name__ == "__main__":
    unittest.main()
