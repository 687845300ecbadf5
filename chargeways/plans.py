"""Plans: the lists of the single deeds of walks, if no test fails."""

from chargeways.courses import give_course, lift_course, move_course, settle_course, take_course
from chargeways.errors import IsTop
from chargeways.trees import check_group


def plan(course, tree):
    """The list of all single deeds of a walk that goes by this course."""
    return course.single_deeds(tree, course.words)


def take_plan(book, tree, group):
    """The plan of a take to the group."""
    check_group(tree, group)
    return plan(take_course(book, group), tree)


def give_plan(book, tree, home):
    """The plan of a give of a thing with this home."""
    check_group(tree, home)
    return plan(give_course(book, home), tree)


def move_plan(book, tree, home, target):
    """The plan of a move of a thing with this home to the target."""
    check_group(tree, home)
    check_group(tree, target)
    return plan(move_course(book, target, home), tree)


def lift_plan(book, tree, home):
    """The plan of a lift of a thing from this home."""
    check_group(tree, home)
    if home == 0:
        raise IsTop()
    return plan(lift_course(book, home), tree)


def settle_plan(tree, group):
    """The plan of a settle of a stock of the group."""
    check_group(tree, group)
    return plan(settle_course(group), tree)
