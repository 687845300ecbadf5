"""Plans: every row of every kind in all small trees, large trees, and every error."""

import inspect
import itertools
import unittest

from chargeways import plans
from chargeways.books import Book
from chargeways.errors import InvalidGroup, IsTop
from chargeways.plans import give_plan, lift_plan, move_plan, settle_plan, take_plan
from chargeways.trees import Tree
from common import NO_INTEGERS, ROWS, Checks

# 0 - 1 - 3 - 5, 1 - 4, 0 - 2 - 6
TREE = Tree([0, 0, 1, 1, 3, 2])

CHAIN = Tree(list(range(199)))
HEAP = Tree([(group - 1) // 2 for group in range(1, 200)])

NAMES = {"take_plan": ["book", "tree", "group"], "give_plan": ["book", "tree", "home"],
         "move_plan": ["book", "tree", "home", "target"], "lift_plan": ["book", "tree", "home"],
         "settle_plan": ["tree", "group"]}


def small_trees(most):
    for size in range(most):
        for parents in itertools.product(*[range(group + 1) for group in range(size)]):
            yield Tree(parents)


def plain_way(tree, group):
    return [group] if group == 0 else [group, *plain_way(tree, tree.parents()[group - 1])]


def along(word, way):
    return [(word, group) for group in way]


def plain_move(row, tree, home, target, shared):
    to_target, to_home = plain_way(tree, target), plain_way(tree, home)
    if not shared:
        both = set(to_target) & set(to_home)
        to_target, to_home = [[step for step in way if step not in both] for way in (to_target, to_home)]
    found = []
    for word in row:
        if word in ("home", "set"):
            found.append((word, None))
        else:
            found += along(word, to_home if word == "off" else to_target)
    return found


class TestInterface(Checks):

    def test_functions_and_their_parameters(self):
        for name, names in NAMES.items():
            found = getattr(plans, name)
            self.assertEqual(found.__module__, "chargeways.plans")
            self.assertEqual(list(inspect.signature(found).parameters), names)

    def test_by_name(self):
        book = Book(shared=False)
        self.assertEqual(take_plan(group=3, tree=TREE, book=book), take_plan(book, TREE, 3))
        self.assertEqual(give_plan(home=3, tree=TREE, book=book), give_plan(book, TREE, 3))
        self.assertEqual(move_plan(target=4, home=3, tree=TREE, book=book), move_plan(book, TREE, 3, 4))
        self.assertEqual(lift_plan(home=3, tree=TREE, book=book), lift_plan(book, TREE, 3))
        self.assertEqual(settle_plan(group=3, tree=TREE), settle_plan(TREE, 3))

    def test_examples_of_the_document(self):
        tree = Tree([0, 0, 1, 2])
        self.assert_same(take_plan(Book(), tree, 1), [("try", 1), ("try", 0), ("live", None)])
        self.assert_same(move_plan(Book(shared=False), tree, 3, 2),
                         [("home", None), ("try", 2), ("set", None), ("off", 3), ("off", 1)])

    def test_lists_are_new(self):
        for call in (lambda: take_plan(Book(), TREE, 5), lambda: give_plan(Book(), TREE, 5),
                     lambda: move_plan(Book(), TREE, 5, 6), lambda: move_plan(Book(move=()), TREE, 5, 6),
                     lambda: lift_plan(Book(), TREE, 5), lambda: lift_plan(Book(lift=()), TREE, 5),
                     lambda: settle_plan(TREE, 5)):
            first = call()
            wanted = list(first)
            first.append("x")
            self.assert_same(call(), wanted)
        self.assertEqual(TREE, Tree([0, 0, 1, 1, 3, 2]))


class TestEachKind(Checks):

    def test_take_in_words(self):
        self.assert_same(take_plan(Book(), TREE, 5), [("try", 5), ("try", 3), ("try", 1), ("try", 0), ("live", None)])
        self.assert_same(take_plan(Book(take=("look", "live", "add")), TREE, 2),
                         [("look", 2), ("look", 0), ("live", None), ("add", 2), ("add", 0)])
        self.assert_same(take_plan(Book(take=("live", "add")), TREE, 0), [("live", None), ("add", 0)])

    def test_take_with_each_row(self):
        for tree in small_trees(5):
            for row, group in itertools.product(ROWS["take"], range(len(tree))):
                wanted = []
                for word in row:
                    wanted += [(word, None)] if word == "live" else along(word, plain_way(tree, group))
                self.assert_same(take_plan(Book(take=row), tree, group), wanted)

    def test_give_in_words(self):
        self.assert_same(give_plan(Book(), TREE, 4),
                         [("home", None), ("off", 4), ("off", 1), ("off", 0), ("end", None)])
        self.assert_same(give_plan(Book(give=("end", "home", "off")), TREE, 0),
                         [("end", None), ("home", None), ("off", 0)])
        self.assert_same(give_plan(Book(give=("end",)), TREE, 4), [("end", None)])

    def test_give_with_each_row(self):
        for tree in small_trees(5):
            for row, home in itertools.product(ROWS["give"], range(len(tree))):
                wanted = []
                for word in row:
                    wanted += along(word, plain_way(tree, home)) if word == "off" else [(word, None)]
                self.assert_same(give_plan(Book(give=row), tree, home), wanted)

    def test_move_in_words(self):
        self.assert_same(move_plan(Book(), TREE, 5, 2), [
            ("home", None), ("try", 2), ("try", 0), ("set", None), ("off", 5), ("off", 3), ("off", 1), ("off", 0)])
        self.assert_same(move_plan(Book(move=("look", "home", "off", "set", "add")), TREE, 1, 4), [
            ("look", 4), ("look", 1), ("look", 0), ("home", None), ("off", 1), ("off", 0), ("set", None),
            ("add", 4), ("add", 1), ("add", 0)])
        self.assert_same(move_plan(Book(move=("set",)), TREE, 5, 2), [("set", None)])

    def test_move_with_each_row(self):
        self.assertEqual(len(ROWS["move"]), 85)
        for tree in small_trees(4):
            for row, home, target in itertools.product(ROWS["move"], range(len(tree)), range(len(tree))):
                self.assert_same(move_plan(Book(move=row), tree, home, target),
                                 plain_move(row, tree, home, target, True))

    def test_move_with_each_row_apart(self):
        rows = [row for row in ROWS["move"] if row == () or row[0] == "home"]
        self.assertEqual(len(rows), 29)
        for tree in small_trees(5):
            for row, home, target in itertools.product(rows, range(len(tree)), range(len(tree))):
                self.assert_same(move_plan(Book(move=row, shared=False), tree, home, target),
                                 plain_move(row, tree, home, target, False))

    def test_move_apart_with_the_target_or_the_home_on_the_way_of_the_other_one(self):
        book = Book(move=("home", "look", "add", "off", "set"), shared=False)
        self.assert_same(move_plan(book, TREE, 5, 1), [("home", None), ("off", 5), ("off", 3), ("set", None)])
        self.assert_same(move_plan(book, TREE, 5, 0),
                         [("home", None), ("off", 5), ("off", 3), ("off", 1), ("set", None)])
        self.assert_same(move_plan(book, TREE, 1, 5), [
            ("home", None), ("look", 5), ("look", 3), ("add", 5), ("add", 3), ("set", None)])
        self.assert_same(move_plan(book, TREE, 3, 3), [("home", None), ("set", None)])
        self.assert_same(move_plan(book, TREE, 0, 0), [("home", None), ("set", None)])
        self.assert_same(move_plan(book, TREE, 5, 4), [
            ("home", None), ("look", 4), ("add", 4), ("off", 5), ("off", 3), ("set", None)])

    def test_the_home_that_is_told_is_remembered_wherever_home_stands(self):
        self.assert_same(move_plan(Book(move=("try", "set", "home", "off")), TREE, 4, 2), [
            ("try", 2), ("try", 0), ("set", None), ("home", None), ("off", 4), ("off", 1), ("off", 0)])

    def test_apart_is_a_matter_of_moves_alone(self):
        for shared in (True, False):
            book = Book(shared=shared)
            self.assertEqual(len(take_plan(book, TREE, 5)), 5)
            self.assertEqual(len(give_plan(book, TREE, 5)), 6)
            self.assertEqual(lift_plan(book, TREE, 5), [("both", 5)])

    def test_lift_with_each_row(self):
        plain = {(): [], ("set",): [("set", None)], ("off",): [("off", 3)], ("set", "off"): [("set", None), ("off", 3)],
                 ("off", "set"): [("off", 3), ("set", None)], ("both",): [("both", 3)]}
        self.assertEqual(sorted(plain), sorted(ROWS["lift"]))
        for row, wanted in plain.items():
            self.assert_same(lift_plan(Book(lift=row), TREE, 3), wanted)

    def test_without_a_row(self):
        self.assert_same(move_plan(Book(move=()), TREE, 5, 2), [])
        self.assert_same(move_plan(Book(move=(), shared=False), TREE, 5, 2), [])
        self.assert_same(lift_plan(Book(lift=()), TREE, 5), [])

    def test_settle(self):
        self.assert_same(settle_plan(TREE, 5), [("off", 5), ("off", 3), ("off", 1), ("off", 0)])
        self.assert_same(settle_plan(TREE, 0), [("off", 0)])
        for tree in small_trees(5):
            for group in range(len(tree)):
                self.assert_same(settle_plan(tree, group), along("off", plain_way(tree, group)))

    def test_other_parts_and_struck_groups_change_nothing(self):
        struck = Tree(TREE.parents(), [5, 3, 4, 1])
        book = Book(fails="wait", holds=(), batch=7, settles=False)
        for group, other in itertools.product(range(7), range(7)):
            self.assertEqual(take_plan(book, struck, group), take_plan(Book(), TREE, group))
            self.assertEqual(give_plan(book, struck, group), give_plan(Book(), TREE, group))
            self.assertEqual(move_plan(book, struck, group, other), move_plan(Book(), TREE, group, other))
            self.assertEqual(settle_plan(struck, group), settle_plan(TREE, group))
            if group > 0:
                self.assertEqual(lift_plan(book, struck, group), lift_plan(Book(), TREE, group))


class TestLargeTrees(Checks):

    def test_chain_of_two_hundred_groups(self):
        up = list(range(199, -1, -1))
        self.assertEqual(take_plan(Book(), CHAIN, 199), along("try", up) + [("live", None)])
        self.assertEqual(give_plan(Book(), CHAIN, 199), [("home", None), *along("off", up), ("end", None)])
        self.assertEqual(settle_plan(CHAIN, 199), along("off", up))
        self.assertEqual(lift_plan(Book(), CHAIN, 199), [("both", 199)])
        self.assertEqual(move_plan(Book(), CHAIN, 199, 198),
                         [("home", None), *along("try", up[1:]), ("set", None), *along("off", up)])
        self.assertEqual(move_plan(Book(shared=False), CHAIN, 199, 100),
                         [("home", None), ("set", None), *along("off", up[:99])])
        self.assertEqual(move_plan(Book(shared=False), CHAIN, 0, 199),
                         [("home", None), *along("try", up[:199]), ("set", None)])

    def test_broad_tree_of_two_hundred_groups(self):
        self.assertEqual(len(HEAP), 200)
        self.assertEqual(take_plan(Book(take=("add", "live")), HEAP, 199),
                         along("add", [199, 99, 49, 24, 11, 5, 2, 0]) + [("live", None)])
        self.assertEqual(move_plan(Book(shared=False), HEAP, 199, 50),
                         [("home", None), ("try", 50), ("set", None), *along("off", [199, 99, 49])])
        self.assertEqual(move_plan(Book(move=("set", "add")), HEAP, 199, 50),
                         [("set", None), *along("add", [50, 24, 11, 5, 2, 0])])


class TestErrors(Checks):

    def test_no_groups(self):
        for value in NO_INTEGERS + [-1, 7, 200, -10 ** 30, 10 ** 30]:
            for book in (Book(), Book(take=("live", "add"), give=("end",), move=("set",)), Book(move=(), lift=())):
                for call, args in ((take_plan, [book, TREE]), (give_plan, [book, TREE]), (lift_plan, [book, TREE]),
                                   (settle_plan, [TREE])):
                    self.assert_raises(InvalidGroup, {"value": value}, call, *args, value)
                self.assert_raises(InvalidGroup, {"value": value}, move_plan, book, TREE, value, 0)
                self.assert_raises(InvalidGroup, {"value": value}, move_plan, book, TREE, 0, value)

    def test_home_comes_ahead_of_target(self):
        self.assert_raises(InvalidGroup, {"value": None}, move_plan, Book(), TREE, None, -1)
        self.assert_raises(InvalidGroup, {"value": -1}, move_plan, Book(), TREE, -1, None)

    def test_lift_from_the_top(self):
        for row in ROWS["lift"]:
            for tree in (Tree(), TREE, CHAIN):
                self.assert_raises(IsTop, {}, lift_plan, Book(lift=row), tree, 0)
        self.assertEqual(lift_plan(Book(), Tree([0]), 1), [("both", 1)])


if __name__ == "__main__":
    unittest.main()
