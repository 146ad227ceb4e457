"""What may be asked of any thing at all, whatever it's made of."""

LETTERS = "abcdefghijklmnopqrstuvwxyz"
LONGEST_NAME = 8


def is_number(thing):
    """Whether a thing is a whole number."""
    # To Python True and False are whole numbers, too; here they are none.
    return isinstance(thing, int) and not isinstance(thing, bool)


def is_number_within(thing, least, most):
    """Whether a thing is a number from least to most."""
    return is_number(thing) and least <= thing <= most


def is_name(thing):
    """Whether a thing is a NAME."""
    if not isinstance(thing, str) or not 1 <= len(thing) <= LONGEST_NAME:
        return False
    # islower would let letters beyond a to z by.
    return all([sign in LETTERS for sign in thing])


def is_tuple_within(thing, least, most):
    """Whether a thing is a tuple of least to most things."""
    return isinstance(thing, tuple) and least <= len(thing) <= most


def is_rising(row):
    """Whether in a row of things of one kind each is above the one ahead."""
    return all([low < high for low, high in zip(row, row[1:])])


def are_pairs(thing):
    """Whether a thing is a list of pairs."""
    return isinstance(thing, list) and all([is_tuple_within(pair, 2, 2) for pair in thing])


def are_numbers_of(thing, callers):
    """Whether a thing is a list of pairs (caller, number) of just these callers, in this order."""
    if not are_pairs(thing):
        return False
    return [caller for caller, _ in thing] == list(callers) and all([is_number(number) for _, number in thing])
