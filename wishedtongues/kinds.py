"""Of which kind a value is, and the numbers that limit an answer."""

from wishedtongues.errors import InvalidChoice


def is_tuple(value):
    """Whether the value is exactly a tuple."""
    return type(value) == tuple


def is_integer_within(value, low, high):
    """Whether the value is an integer from low to high."""
    # True and False are ints for Python, but no integers for the package.
    return isinstance(value, int) and not isinstance(value, bool) and low <= value <= high


def is_ascending(values):
    """Whether each of the values is less than the next one."""
    return all([value < next_value for value, next_value in zip(values, values[1:])])


def check_choice(value, low, high):
    """Raise InvalidChoice unless the value is an integer from low to high."""
    if not is_integer_within(value, low, high):
        raise InvalidChoice("a number that limits the answer is out of its range")
