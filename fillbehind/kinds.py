"""Questions about values of any kind; none of them compares or hashes a value that it does not know."""

LETTERS = "abcdefghijklmnopqrstuvwxyz"


def is_integer(value):
    """Tell whether a value is an integer; True and False are none."""
    return isinstance(value, int) and not isinstance(value, bool)


def is_between(value, least, most):
    """Tell whether a value is an integer within these bounds."""
    return is_integer(value) and least <= value <= most


def is_word(value, words):
    """Tell whether a value is one of the words of a tuple."""
    return isinstance(value, str) and value in words


def are_words(values, words):
    """Tell whether the values are different words of a tuple, in its order."""
    if not all([is_word(value, words) for value in values]):
        return False
    return list(values) == [word for word in words if word in values]


def is_sequence(value):
    """Tell whether a value is a list or a tuple."""
    return isinstance(value, (list, tuple))


def is_sized(value, least, most):
    """Tell whether a value is a list or tuple with a number of items within these bounds."""
    return is_sequence(value) and least <= len(value) <= most


def is_name(value):
    """Tell whether a value is a string of 1 to 12 small letters."""
    return isinstance(value, str) and 1 <= len(value) <= 12 and all([letter in LETTERS for letter in value])


def are_names(value):
    """Tell whether a value is a list or tuple of different names."""
    if not is_sequence(value) or not all([is_name(name) for name in value]):
        return False
    return len(set(value)) == len(value)


def is_plain(value):
    """Tell whether a value is a tuple of strings, integers and None alone.

    Such a tuple can be compared: without this, True would pass for 1.
    """
    if not isinstance(value, tuple):
        return False
    return all([item is None or isinstance(item, str) or is_integer(item) for item in value])
