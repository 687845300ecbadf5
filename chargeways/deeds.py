"""Which values tell a deed of a run."""

from chargeways.checks import is_an_integer

# how many numbers stand behind the word of each deed
DEED_SIZES = {"group": 1, "limit": 2, "strike": 1, "take": 2, "give": 2, "move": 3, "lift": 2, "settle": 2, "step": 1}


def is_deed(value):
    """Whether any value is a tuple that tells a deed."""
    if not isinstance(value, tuple) or len(value) == 0:
        return False
    word, *numbers = value
    if not isinstance(word, str) or word not in DEED_SIZES or len(numbers) != DEED_SIZES[word]:
        return False
    if word == "limit" and numbers[1] is None:
        return is_an_integer(numbers[0])
    return all([is_an_integer(number) for number in numbers])
