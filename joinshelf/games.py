"""The game of a keeper against a foe, and books by which the one or the other wins it.

A stand of the game is a triple: the row of the sizes told so far, the list of
the begins of the runs that stand, and what was written so far.
"""

from joinshelf.burdens import least_writing, writing
from joinshelf.checks import is_between
from joinshelf.errors import NoAnswer, NoNumber, NoPrice, TooMany
from joinshelf.keepers import count_rows, is_answer, led, rows_to, stayed
from joinshelf.trades import is_less, is_price, lowest_terms

MOST_GAME_RUNS = 4
MOST_GAME_HOURS = 6
MOST_GAME_SIZE = 4
MOST_GAME_ROWS = 400


class Game:
    """The bounds of a game, and the least costs of all rows that can be told in it."""

    def __init__(self, most, hours, size):
        self.most = most
        self.hours = hours
        self.size = size
        self.bests = {row: least_writing(row, most) for row in rows_to(hours, size)}

    def begun(self):
        """The stand ahead of the first size."""
        return ((), [], 0)

    def sizes(self):
        """The list of the sizes that the foe can tell."""
        return list(range(1, self.size + 1))

    def answers(self, stand):
        """The list of the answers that the keeper can give to a size."""
        begins = stand[1]
        return [stay for stay in range(len(begins) + 1) if is_answer(begins, self.most, stay)]

    def behind(self, stand, size, stay):
        """The stand behind a size and the answer to it."""
        row, begins, spent = stand
        later = stayed(begins, len(row), stay)
        longer = row + (size,)
        return (longer, later, spent + sum(longer[later[-1]:]))

    def ratio(self, stand):
        """The pair of what was written so far and of the least cost: it holds if the foe stops here."""
        row, _, spent = stand
        return (spent, self.bests[row]) if row else (0, 1)

    def worth(self, stand):
        """The least ratio that the keeper holds from a stand on."""
        found = self.ratio(stand)
        if len(stand[0]) < self.hours:
            for size in self.sizes():
                _, later = self.reply(stand, size)
                if is_less(found, later):
                    found = later
        return found

    def reply(self, stand, size):
        """The pair of the first answer to a size that is best for the keeper, and of the ratio that it then holds."""
        best = 0
        found = self.worth(self.behind(stand, size, best))
        for stay in self.answers(stand)[1:]:
            later = self.worth(self.behind(stand, size, stay))
            if is_less(later, found):
                best = stay
                found = later
        return (best, found)


def check_game(most, hours, size):
    """Raises the error for what are no bounds of a game."""
    if not is_between(1, MOST_GAME_RUNS, most) or not is_between(1, MOST_GAME_HOURS, hours):
        raise NoNumber()
    if not is_between(1, MOST_GAME_SIZE, size):
        raise NoNumber()


def check_rows(hours, size):
    """Raises the error for a game with too many rows."""
    if count_rows(hours, size)[-1] > MOST_GAME_ROWS:
        raise TooMany(MOST_GAME_ROWS)


def game_for(most, hours, size, ratio):
    """The game with these bounds, in which a ratio is to be held."""
    check_game(most, hours, size)
    if not is_price(ratio):
        raise NoPrice()
    check_rows(hours, size)
    return Game(most, hours, size)


def surest(most, hours, size):
    """The least ratio that some keeper holds."""
    check_game(most, hours, size)
    check_rows(hours, size)
    game = Game(most, hours, size)
    return lowest_terms(game.worth(game.begun()))


def keepers_book(most, hours, size, ratio):
    """A keeper's book for the ratio, or None."""
    game = game_for(most, hours, size, ratio)
    if is_less(ratio, game.worth(game.begun())):
        return None
    book = {}
    waiting = [game.begun()]
    while waiting:
        stand = waiting.pop()
        if len(stand[0]) < hours:
            for told in game.sizes():
                stay, _ = game.reply(stand, told)
                later = game.behind(stand, told, stay)
                book[later[0]] = stay
                waiting.append(later)
    return book


def winning_size(game, stand, ratio):
    """The first size behind which the keeper can't hold the ratio, or 0 if it does not hold it already."""
    if is_less(ratio, game.ratio(stand)):
        return 0
    return min([told for told in game.sizes() if is_less(ratio, game.reply(stand, told)[1])])


def foes_book(most, hours, size, ratio):
    """A foe's book for the ratio, or None."""
    game = game_for(most, hours, size, ratio)
    if not is_less(ratio, game.worth(game.begun())):
        return None
    book = {}
    waiting = [((), game.begun())]
    while waiting:
        given, stand = waiting.pop()
        told = winning_size(game, stand, ratio)
        book[given] = told
        if told > 0:
            waiting.extend([(given + (stay,), game.behind(stand, told, stay)) for stay in game.answers(stand)])
    return book


def is_held(game, row, ratio, book):
    """Whether a keeper that is led by the book holds the ratio if the foe stops behind the row."""
    try:
        plan = led(row, game.most, lambda told, shelf: book[told])
    except NoAnswer:
        return False
    return not is_less(ratio, (writing(row, plan), game.bests[row]))


def is_keepers_book(most, hours, size, ratio, thing):
    """Whether a thing is a keeper's book for the ratio."""
    game = game_for(most, hours, size, ratio)
    if not isinstance(thing, dict) or len(thing) != len(game.bests):
        return False
    if not all([row in thing for row in game.bests]):
        return False
    return all([is_held(game, row, ratio, thing) for row in game.bests])


def is_foes_book(most, hours, size, ratio, thing):
    """Whether a thing is a foe's book for the ratio."""
    game = game_for(most, hours, size, ratio)
    if not isinstance(thing, dict):
        return False
    met = 0
    waiting = [((), game.begun())]
    while waiting:
        given, stand = waiting.pop()
        if given not in thing or not is_between(0, size, thing[given]):
            return False
        told = thing[given]
        if told == 0 and not is_less(ratio, game.ratio(stand)):
            return False
        if told > 0 and len(given) == hours:
            return False
        met += 1
        if told > 0:
            waiting.extend([(given + (stay,), game.behind(stand, told, stay)) for stay in game.answers(stand)])
    return met == len(thing)
