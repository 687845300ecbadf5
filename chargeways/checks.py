"""What a value that is passed has to be, wherever the package asks for it."""

HANDS = 100


def is_an_integer(value):
    """Whether this is an integer; True and False are never taken for numbers."""
    return isinstance(value, int) and not isinstance(value, bool)


def is_between(value, least, most):
    """Whether this is an integer from least to most."""
    return is_an_integer(value) and least <= value <= most


def is_hand(value):
    """Whether this is the number of a hand."""
    return is_between(value, 0, HANDS - 1)


def is_list(value):
    """Whether this may be passed where a list is asked for."""
    return isinstance(value, (list, tuple))


def is_word(value, words):
    """Whether this is one of the words."""
    return isinstance(value, str) and value in words


def are_different_words(values, words):
    """Whether all members of this list or tuple are out of the words, none of them twice."""
    return all([is_word(value, words) for value in values]) and len(set(values)) == len(values)
