"""The forms that values of any kind may have."""


def is_serial(value):
    """Tell whether any value is an integer."""
    return isinstance(value, int) and not isinstance(value, bool)


def is_count(value):
    """Tell whether any value is an integer from 0."""
    return is_serial(value) and value >= 0


def is_part(value):
    """Tell whether any value is an integer or a string."""
    return isinstance(value, str) or is_serial(value)


def is_place(value):
    """Tell whether any value has the form of a place or rows place."""
    if not isinstance(value, tuple) or len(value) != 2 or not isinstance(value[0], str):
        return False
    return isinstance(value[1], tuple) and all([isinstance(part, str) or is_count(part) for part in value[1]])


def is_spot_shaped(value):
    """Tell whether any value is a tuple of two strings and a path of strings and integers."""
    if not isinstance(value, tuple) or len(value) != 3 or not isinstance(value[2], tuple):
        return False
    return isinstance(value[0], str) and isinstance(value[1], str) and all([is_part(part) for part in value[2]])


def are_pairs(value):
    """Tell whether any value is a tuple of tuples of two."""
    return isinstance(value, tuple) and all([isinstance(pair, tuple) and len(pair) == 2 for pair in value])
