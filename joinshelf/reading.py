"""Reading of the texts of batches, feeds and plans."""

from joinshelf.errors import BadText
from joinshelf.feeds import Feed, is_batch
from joinshelf.plans import is_any_plan

FIGURES = "0123456789"
MOST_FIGURES = 9


def is_number_word(word):
    """Whether a word is a number from 0 on, without needless zeros and with not too many figures."""
    if not 1 <= len(word) <= MOST_FIGURES or not all([sign in FIGURES for sign in word]):
        return False
    return word == "0" or word[0] != "0"


def is_value_word(word):
    """Whether a word is a number, perhaps one below 0."""
    if word.startswith("-"):
        return word != "-0" and is_number_word(word[1:])
    return is_number_word(word)


def pair_told(word):
    """The pair of a key and its value that a word tells, None if it has not the form of one."""
    if word.endswith("-") and is_number_word(word[:-1]):
        return (int(word[:-1]), None)
    key, _, value = word.partition("=")
    if is_number_word(key) and is_value_word(value):
        return (int(key), int(value))
    return None


def pairs_told(words):
    """The tuple of the pairs that words tell, which may be no batch; None if they have not the form of one."""
    if words == ["-"]:
        return ()
    pairs = [pair_told(word) for word in words]
    if not pairs or None in pairs:
        return None
    return tuple(pairs)


def numbers_told(words):
    """The tuple of the numbers that words tell, None if there are none or one is no number."""
    if not words or not all([is_number_word(word) for word in words]):
        return None
    return tuple([int(word) for word in words])


def read_batch(text):
    """The batch that a text tells."""
    if not isinstance(text, str):
        raise BadText(0)
    batch = pairs_told(text.split(" "))
    if not is_batch(batch):
        raise BadText(1)
    return batch


def read_feed(text):
    """The feed that a text tells."""
    if not isinstance(text, str):
        raise BadText(0)
    lines = text.split("\n")
    batches = []
    kept = ()
    for at, line in enumerate(lines[:-1], start=1):
        words = line.split(" ")
        # Behind a kept line no line can stand at all.
        told = line_told(words, len(batches)) if not kept else None
        if told is None:
            raise BadText(at)
        if words[0] == "batch":
            batches.append(told)
        else:
            kept = told
    if len(lines) == 1 or lines[-1] != "":
        raise BadText(len(lines))
    return Feed(tuple(batches), kept)


def line_told(words, many):
    """What the words of a line tell that stands behind so many batch lines and no kept line, None if it can't."""
    if words[0] == "batch":
        return pairs_told(words[1:])
    if words[0] == "kept" and many > 0:
        return numbers_told(words[1:])
    return None


def read_plan(text):
    """The plan that a text tells."""
    if not isinstance(text, str):
        raise BadText(0)
    plan = numbers_told(text.split(","))
    if not is_any_plan(plan):
        raise BadText(1)
    return plan
