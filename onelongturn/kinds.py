"""The kinds of values that everything is made of: integers, numbers, moments and names."""

MOST = 1000000000000
BEYOND_MOMENTS = 10 ** 60
LONGEST_NAME = 8


def is_int(value):
    """Whether any value is an integer; a bool is none."""
    return isinstance(value, int) and not isinstance(value, bool)


def is_number(value):
    """Whether any value is an integer from 0 to 10 ** 12."""
    return is_int(value) and 0 <= value <= MOST


def is_number_from_one(value):
    """Whether any value is an integer from 1 to 10 ** 12."""
    return is_int(value) and 1 <= value <= MOST


def is_moment(value):
    """Whether any value is an integer of at most 60 digits, of any sign."""
    return is_int(value) and -BEYOND_MOMENTS < value < BEYOND_MOMENTS


def is_name(value):
    """Whether any value is a string of 1 to 8 letters from a to z."""
    if not isinstance(value, str) or len(value) > LONGEST_NAME:
        return False
    return value.isascii() and value.isalpha() and value.islower()
