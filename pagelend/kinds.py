"""What a whole number and a name are, told of anything, and the greatest value of a page."""

LETTERS = "abcdefghijklmnopqrstuvwxyz"
LONGEST_NAME = 8
GREATEST_VALUE = 999


def is_whole(thing):
    """Tell whether it is a whole number; a truth is none."""
    return isinstance(thing, int) and not isinstance(thing, bool)


def is_number(thing):
    """Tell whether it is a whole number from 0 on."""
    return is_whole(thing) and thing >= 0


def is_within(thing, least, most):
    """Tell whether it is a whole number from least to most."""
    return is_whole(thing) and least <= thing <= most


def is_name(thing):
    """Tell whether it is a name."""
    if not isinstance(thing, str) or not 1 <= len(thing) <= LONGEST_NAME:
        return False
    return all([sign in LETTERS for sign in thing])


def is_tuple(thing, least, most):
    """Tell whether it is a tuple of least to most things."""
    return isinstance(thing, tuple) and least <= len(thing) <= most


def is_rising(things):
    """Tell whether things that can be compared are in order, none twice."""
    return all([things[k] < things[k + 1] for k in range(len(things) - 1)])


def are_unlike(numbers):
    """Tell whether none of the numbers is there twice."""
    return len(set(numbers)) == len(numbers)
