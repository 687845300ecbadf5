"""Claims about books and runs, and papers that show that they are true."""

from chargeways.badruns import bad_run, is_bad_run, run_by
from chargeways.checks import is_an_integer, is_between, is_list, is_word
from chargeways.errors import InvalidClaim, InvalidText, NotKept, Untrue
from chargeways.forms import MOST_CROWD, crowd, form, is_crowd, most_above
from chargeways.helps import HELP_WISHES, kept_chart
from chargeways.holds import WISHES
from chargeways.tables import SUM_WISHES, are_numbers, keeps, numbers
from chargeways.texts import deed_from, line_of, read_book
from chargeways.traps import are_ranks, is_sure, is_trap, ranks, trap

# what stands in a claim of each sort besides its word
PARTS_OF_CLAIMS = {"keeps": ("book", "wish"), "breaks": ("book", "wish"), "above": ("book", "hands", "most"),
                   "endless": ("book",), "counts": ("book", "deeds", "group", "count")}


def book_from(text):
    """The book whose text this is, None if the value is no text of one."""
    try:
        return read_book(text)
    except InvalidText:
        return None


def deeds_from_lines(value):
    """The list of the deeds whose lines a list has, None if the value is no list of such lines."""
    if not is_list(value):
        return None
    deeds = [deed_from(line) for line in value]
    return None if None in deeds else deeds


def is_count(value):
    """Whether this is an integer that is at least 0."""
    return is_an_integer(value) and value >= 0


def is_part(name, value):
    """Whether the value may stand under this name in a claim."""
    if name == "book":
        return book_from(value) is not None
    if name == "wish":
        return is_word(value, WISHES)
    if name == "hands":
        return is_between(value, 1, MOST_CROWD)
    if name == "deeds":
        return deeds_from_lines(value) is not None
    return is_an_integer(value) if name == "count" else is_count(value)


def has_form(value):
    """Whether the value is a dict with just the keys of a claim, and under each one what may stand there."""
    if not isinstance(value, dict) or not is_word(value.get("claim"), list(PARTS_OF_CLAIMS)):
        return False
    names = PARTS_OF_CLAIMS[value["claim"]]
    if len(value) != len(names) + 1:
        return False
    return all([name in value and is_part(name, value[name]) for name in names])


def check_claim(value):
    """Raise InvalidClaim unless the value is a claim."""
    if not has_form(value):
        raise InvalidClaim(value)
    if value.get("wish") in HELP_WISHES:
        try:
            kept_chart(read_book(value["book"]))
        except NotKept:
            raise InvalidClaim(value) from None


def keeps_claimed(claim):
    """Whether the book of the claim keeps its wish."""
    book, wish = read_book(claim["book"]), claim["wish"]
    return keeps(book, wish) if wish in SUM_WISHES else is_sure(book, wish)


def counts_claimed(claim):
    """Whether the deeds of the claim can be done, and its group then has its count."""
    run = run_by(read_book(claim["book"]), deeds_from_lines(claim["deeds"]))
    group = claim["group"]
    return run is not None and group < len(run.tree) and run.count(group) == claim["count"]


def is_true(claim):
    """Whether the claim is true."""
    check_claim(claim)
    word = claim["claim"]
    if word == "keeps":
        return keeps_claimed(claim)
    if word == "breaks":
        return not keeps_claimed(claim)
    if word == "counts":
        return counts_claimed(claim)
    book = read_book(claim["book"])
    return form(book) is None if word == "endless" else most_above(book, claim["hands"]) == claim["most"]


def is_paper(claim, value):
    """Whether any value is a paper for the claim."""
    check_claim(claim)
    word = claim["claim"]
    if word == "keeps":
        return is_kept_paper(claim, value)
    if word == "breaks":
        return is_broken_paper(claim, value)
    if word == "above":
        return is_above_paper(claim, value)
    return value is None and is_true(claim)


def is_kept_paper(claim, value):
    """Whether the value is numbers, or ranks, for the wish of the claim."""
    book, wish = read_book(claim["book"]), claim["wish"]
    return are_numbers(book, wish, value) if wish in SUM_WISHES else are_ranks(book, wish, value)


def is_broken_paper(claim, value):
    """Whether the value is a bad run, or a trap, for the wish of the claim, with lines in the place of deeds."""
    book, wish = read_book(claim["book"]), claim["wish"]
    if wish in SUM_WISHES:
        return is_bad_run(book, wish, deeds_from_lines(value))
    if not isinstance(value, tuple) or len(value) == 0:
        return False
    lines, *others = value
    return is_trap(book, wish, (deeds_from_lines(lines), *others))


def is_above_paper(claim, value):
    """Whether the value is the lines of a crowd that is above its limit by just what is claimed."""
    book, hands = read_book(claim["book"]), claim["hands"]
    return most_above(book, hands) == claim["most"] and is_crowd(book, hands, deeds_from_lines(value))


def lines_of(deeds):
    """The list of the lines of these deeds."""
    return [line_of(deed) for deed in deeds]


def paper_for(claim):
    """A paper that shows that the claim is true."""
    if not is_true(claim):
        raise Untrue()
    word = claim["claim"]
    if word == "endless" or word == "counts":
        return None
    book = read_book(claim["book"])
    if word == "above":
        return lines_of(crowd(book, claim["hands"]))
    wish = claim["wish"]
    if word == "keeps":
        return numbers(book, wish) if wish in SUM_WISHES else ranks(book, wish)
    if wish in SUM_WISHES:
        return lines_of(bad_run(book, wish))
    deeds, *others = trap(book, wish)
    return (lines_of(deeds), *others)
