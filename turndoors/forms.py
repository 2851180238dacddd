"""Checks of the form of any value, shared by the modules of the package."""

_LETTERS = 6


def is_name(value):
    """Tell whether the value is a string of one to six letters from a to z."""
    if not isinstance(value, str) or not 1 <= len(value) <= _LETTERS:
        return False
    return all(["a" <= letter <= "z" for letter in value])


def is_strings(value):
    """Tell whether the value is a tuple of strings."""
    return isinstance(value, tuple) and all([isinstance(item, str) for item in value])


def is_groups(value, width):
    """Tell whether the value is a tuple of tuples of so many strings."""
    if not isinstance(value, tuple):
        return False
    return all([is_strings(group) and len(group) == width for group in value])


def has_shape(value, width):
    """Tell whether the value is a tuple of two: a tuple of strings, and a tuple of tuples of so many strings."""
    if not isinstance(value, tuple) or len(value) != 2:
        return False
    return is_strings(value[0]) and is_groups(value[1], width)


def is_choice(value, names):
    """Tell whether the value is a tuple of different ones of these names."""
    if not is_strings(value) or len(set(value)) != len(value):
        return False
    return all([item in names for item in value])


def is_whole(value):
    """Tell whether the value is a whole number, which a boolean is not."""
    return isinstance(value, int) and not isinstance(value, bool)
