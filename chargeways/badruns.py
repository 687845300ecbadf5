"""Bad runs: runs of a book at whose end a group below the top has a count above, or below, its due."""

from chargeways.audits import dues
from chargeways.charts import breach, chart_of
from chargeways.errors import DeedFailed, InvalidDeed
from chargeways.runs import Run
from chargeways.stories import Story, told_part
from chargeways.tables import check_sum_wish


def bad_run(book, wish):
    """The deeds of a bad run for the wish "once" or "kept", None if the book keeps it."""
    check_sum_wish(wish)
    way = breach(told_part(book, chart_of(book)), wish)
    if way is None:
        return None
    story = Story(book, way)
    story.end()
    return story.run.log()


def run_by(book, deeds):
    """The run of the book that has done these deeds, None if the value is no list of deeds that can be done."""
    run = Run(book)
    try:
        run.do_all(deeds)
    except (InvalidDeed, DeedFailed):
        return None
    return run


def is_bad_run(book, wish, value):
    """Whether any value is a list of the deeds of a bad run for the wish."""
    check_sum_wish(wish)
    run = run_by(book, value)
    if run is None or not run.at_rest:
        return False
    gaps = [run.count(group) - number for group, number in enumerate(dues(run)) if group > 0]
    return any([gap > 0 if wish == "once" else gap < 0 for gap in gaps])
