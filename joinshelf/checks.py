"""What the other files ask of things of whatever kind.

A thing may be of any kind, so its kind is asked ahead of all else.
"""


def is_integer(thing):
    """Whether a thing is an integer: flags are none."""
    return isinstance(thing, int) and not isinstance(thing, bool)


def is_between(low, high, thing):
    """Whether a thing is an integer from low to high."""
    return is_integer(thing) and low <= thing <= high


def is_tuple_of(low, high, thing):
    """Whether a thing is a tuple of low to high things."""
    return isinstance(thing, tuple) and low <= len(thing) <= high


def is_pair(thing):
    """Whether a thing is a tuple of two."""
    return is_tuple_of(2, 2, thing)


def is_row(many, high, thing):
    """Whether a thing is a tuple of so many integers from 0 to high."""
    return is_tuple_of(many, many, thing) and all([is_between(0, high, number) for number in thing])


def is_ascending(numbers):
    """Whether each of some integers is above the one ahead of it."""
    return all([low < high for low, high in zip(numbers, numbers[1:])])


def is_ascending_between(low, high, thing):
    """Whether a thing is an ascending tuple of integers from low to high."""
    if not isinstance(thing, tuple) or not all([is_between(low, high, number) for number in thing]):
        return False
    return is_ascending(thing)
