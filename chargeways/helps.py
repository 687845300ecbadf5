"""Which deeds of a table help towards the wishes "free" and "gone", and what is known of books that keep the other two.

"free": nobody waits for ever. "gone": what is charged to a struck group can leave it.
"""

from chargeways.charts import breach, chart_of
from chargeways.checks import is_word
from chargeways.errors import InvalidWish, NotKept
from chargeways.rows import look_is_behind
from chargeways.states import deeds_from, needs_test, parts_of

HELP_WISHES = ("free", "gone")


def check_help_wish(value):
    """Raise InvalidWish unless the value is one of the wishes that deeds that help decide."""
    if not is_word(value, HELP_WISHES):
        raise InvalidWish(value)


def kept_chart(book):
    """The chart of a book that keeps "once" and "kept"; NotKept with the first one that it does not keep."""
    chart = chart_of(book)
    for wish in ("once", "kept"):
        if breach(chart, wish) is not None:
            raise NotKept(wish)
    return chart


def word_needs_test(book, state, deed):
    """Whether the deed is a word that needs a test."""
    word, *told = deed
    if word != "word" or told == ["settle"]:
        return False
    kind = told[0]
    return needs_test(book, kind, parts_of(state)[kind])


def helps_free(book, state, deed):
    """Whether the deed helps towards "free"."""
    if deed == ("strike",):
        return False
    if not word_needs_test(book, state, deed):
        return True
    # a take whose test comes first has added nothing for which there was no room
    return deed == ("word", "take") and not look_is_behind(book.row("take"))


def helps_gone(book, state, deed):
    """Whether the deed helps towards "gone"."""
    if deed[0] == "begin":
        return deed[1] == "lift" or deed[1] == "settle" and book.settles
    return deed != ("use",) and not word_needs_test(book, state, deed)


def helps(book, wish, state, deed):
    """Whether the deed, which leads on from the state, helps towards the wish."""
    return helps_free(book, state, deed) if wish == "free" else helps_gone(book, state, deed)


def helping_deeds(book, wish, state):
    """The list of the tuples (deed, weight, next state) of the deeds that help."""
    return [told for told in deeds_from(book, state) if helps(book, wish, state, told[0])]
