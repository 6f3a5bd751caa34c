"""What things are: each function judges any object and raises nothing."""


def is_integer(thing):
    # To Python flags are ints, too; to the document they are no integers.
    return isinstance(thing, int) and not isinstance(thing, bool)


def is_number(thing, many):
    """Whether it is one of the numbers of that many things."""
    return is_integer(thing) and 0 <= thing < many


def is_name(thing):
    if not isinstance(thing, str) or not 1 <= len(thing) <= 8:
        return False
    return all(["a" <= letter <= "z" for letter in thing])


def is_tuple(thing, least, most):
    """Whether it is a tuple of least to most things."""
    return isinstance(thing, tuple) and least <= len(thing) <= most
