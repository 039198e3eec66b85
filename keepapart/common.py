"""Small tests of values, and the pairs of a list, for all files of the package."""

LETTERS = "abcdefghijklmnopqrstuvwxyz"
LONGEST_NAME = 8


def is_at_least(value, low):
    """Whether a value is an integer of at least `low`."""
    # Python counts True and False among the integers; the package does not.
    return isinstance(value, int) and not isinstance(value, bool) and value >= low


def is_between(value, low, high):
    """Whether a value is an integer from `low` to `high`."""
    return is_at_least(value, low) and value <= high


def is_name(value):
    """Whether a value is a string of 1 to 8 lowercase letters."""
    if not isinstance(value, str) or not is_between(len(value), 1, LONGEST_NAME):
        return False
    # Not islower: that takes letters outside of a to z as well.
    return all([letter in LETTERS for letter in value])


def all_pairs(items):
    """All pairs of items of a list, an earlier one and a later one, in the order of the list."""
    return [(first, second) for at, first in enumerate(items) for second in items[at + 1:]]
