"""Lines: parts that are separated by one space, and numbers in decimal."""

DIGITS = "0123456789"


def is_numeral(word):
    """Whether the word is an integer in decimal, without needless zeros and without a sign but that of one below 0."""
    digits = word[1:] if word.startswith("-") else word
    if digits == "" or not all([digit in DIGITS for digit in digits]):
        return False
    return word == "0" or digits[0] != "0"


def line_from(parts):
    """The line of these parts, each a word or a number."""
    return " ".join([str(part) for part in parts])
