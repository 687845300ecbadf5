"""Trees: all small ones against plain reckoning, some of 200 groups, and every error."""

import inspect
import itertools
import unittest

from chargeways import trees
from chargeways.books import Book
from chargeways.errors import HasChildren, InvalidGroup, InvalidParents, InvalidStruck, IsTop, Struck, TooMany
from chargeways.trees import Tree
from common import NO_INTEGERS, NO_LISTS, Checks

METHODS = {"parents": [], "struck": [], "parent": ["group"], "children": ["group"], "way": ["group"],
           "depth": ["group"], "is_struck": ["group"], "is_below": ["group", "seen"], "place": ["group", "seen"],
           "all_below": ["group"], "common": ["group", "seen"], "apart": ["group", "seen"],
           "with_group": ["group"], "with_struck": ["group"]}

CHAIN = Tree(list(range(199)))
STAR = Tree([0] * 199)
HEAP = Tree([(group - 1) // 2 for group in range(1, 200)])


def small_parents(most):
    """The parents of all trees of at most so many groups."""
    for size in range(most):
        yield from itertools.product(*[range(group + 1) for group in range(size)])


def struck_sets(parents):
    """All sets of groups of a tree that may be struck together."""
    groups = range(1, len(parents) + 1)
    for size in range(len(parents) + 1):
        for chosen in itertools.combinations(groups, size):
            if all(child in chosen for child in groups if parents[child - 1] in chosen):
                yield chosen


def small_trees(most):
    for parents in small_parents(most):
        for struck in struck_sets(parents):
            yield parents, struck, Tree(parents, struck)


def way_of(parents, group):
    way = [group]
    while way[-1] != 0:
        way.append(parents[way[-1] - 1])
    return way


def struck_fault(parents, struck):
    """The position that InvalidStruck has to tell, -1 if the list may stand."""
    for at, group in enumerate(struck):
        if isinstance(group, bool) or not isinstance(group, int) or not 0 < group <= len(parents):
            return at
        if group in struck[:at]:
            return at
    for at, group in enumerate(struck):
        if [child for child in range(1, len(parents) + 1) if parents[child - 1] == group and child not in struck]:
            return at
    return -1


class TestTree(Checks):

    def assert_is(self, got, wanted):
        """Equal, and of the same kind, also within a list."""
        self.assertEqual(got, wanted)
        self.assertIs(type(got), type(wanted))
        if isinstance(got, list):
            self.assertEqual([type(one) for one in got], [type(one) for one in wanted])


class TestInterface(TestTree):

    def test_class_and_methods_stand_in_their_file(self):
        self.assertEqual(Tree.__module__, "chargeways.trees")
        self.assertIs(trees.Tree, Tree)
        for name in list(METHODS) + ["__init__", "__len__", "__eq__", "__repr__"]:
            self.assertIn(name, vars(Tree))

    def test_names_of_the_parameters(self):
        self.assertEqual(list(inspect.signature(Tree).parameters), ["parents", "struck"])
        for name, names in METHODS.items():
            self.assertEqual(list(inspect.signature(getattr(Tree(), name)).parameters), names)

    def test_by_position_and_by_name(self):
        tree = Tree(parents=[0, 0, 1, 2], struck=[3])
        self.assertEqual(tree, Tree([0, 0, 1, 2], [3]))
        self.assertEqual(Tree(struck=[2], parents=[0, 0]), Tree([0, 0], [2]))
        for name, names in METHODS.items():
            for values in ([2, 0], [4, 2], [2, 4], [1, 1]):
                named = dict(zip(names, values))
                if name == "with_struck":
                    named = {"group": 4}
                self.assertEqual(getattr(tree, name)(*named.values()), getattr(tree, name)(**named))

    def test_example_of_the_document(self):
        tree = Tree([0, 0, 1, 2])
        self.assertEqual([tree.way(3), tree.place(3, 1), tree.place(0, 1), tree.common(3, 1), tree.apart(3, 4)],
                         [[3, 1, 0], "below", "out", [1, 0], [3, 1]])


class TestSmallTrees(TestTree):

    def test_whole_tree(self):
        for parents, struck, tree in small_trees(6):
            self.assert_is(len(tree), len(parents) + 1)
            self.assert_is(tree.parents(), list(parents))
            self.assert_is(tree.struck(), list(struck))

    def test_one_group(self):
        for parents, struck, tree in small_trees(6):
            groups = range(len(parents) + 1)
            for group in groups:
                way = way_of(parents, group)
                self.assert_is(tree.parent(group), way[1] if group else None)
                self.assert_is(tree.children(group), [other for other in groups if other > 0
                                                      and parents[other - 1] == group])
                self.assert_is(tree.way(group), way)
                self.assert_is(tree.depth(group), len(way) - 1)
                self.assert_is(tree.is_struck(group), group in struck)
                self.assert_is(tree.all_below(group), [other for other in groups if other != group
                                                       and group in way_of(parents, other)])

    def test_two_groups(self):
        for parents, _, tree in small_trees(5):
            for group, seen in itertools.product(range(len(parents) + 1), repeat=2):
                way, other = way_of(parents, group), way_of(parents, seen)
                place = "here" if group == seen else "below" if seen in way else "out"
                self.assert_is(tree.place(group, seen), place)
                self.assert_is(tree.is_below(group, seen), place == "below")
                self.assert_is(tree.common(group, seen), [step for step in way if step in other])
                self.assert_is(tree.apart(group, seen), [step for step in way if step not in other])

    def test_with_group(self):
        for parents, struck, tree in small_trees(5):
            for group in range(len(parents) + 1):
                if group in struck:
                    self.assert_raises(Struck, {"group": group}, tree.with_group, group)
                else:
                    grown = tree.with_group(group)
                    self.assertIs(type(grown), Tree)
                    self.assertEqual(grown, Tree(list(parents) + [group], struck))
                    self.assertEqual((grown.parents(), grown.struck()), (list(parents) + [group], list(struck)))
                self.assertEqual((tree.parents(), tree.struck()), (list(parents), list(struck)))

    def test_with_struck(self):
        for parents, struck, tree in small_trees(5):
            for group in range(len(parents) + 1):
                children = [child for child in range(1, len(parents) + 1) if parents[child - 1] == group]
                if group == 0:
                    self.assert_raises(IsTop, {}, tree.with_struck, group)
                elif group in struck:
                    self.assert_raises(Struck, {"group": group}, tree.with_struck, group)
                elif [child for child in children if child not in struck]:
                    self.assert_raises(HasChildren, {"group": group}, tree.with_struck, group)
                else:
                    behind = tree.with_struck(group)
                    self.assertIs(type(behind), Tree)
                    self.assertEqual((behind.parents(), behind.struck()), (list(parents), sorted([*struck, group])))
                self.assertEqual((tree.parents(), tree.struck()), (list(parents), list(struck)))

    def test_struck_groups_stay_and_ways_go_through_them(self):
        tree = Tree([0, 1, 2], [1, 2, 3])
        self.assertEqual(tree.way(3), [3, 2, 1, 0])
        self.assertEqual(tree.all_below(1), [2, 3])
        self.assertEqual([tree.parent(3), tree.children(1), tree.place(3, 1)], [2, [2], "below"])
        self.assertEqual([tree.is_struck(group) for group in range(4)], [False, True, True, True])


class TestLargeTrees(TestTree):

    def test_chain(self):
        self.assertEqual(len(CHAIN), 200)
        self.assertEqual(CHAIN.way(199), list(range(199, -1, -1)))
        self.assertEqual([CHAIN.depth(group) for group in range(200)], list(range(200)))
        self.assertEqual(CHAIN.all_below(0), list(range(1, 200)))
        self.assertEqual(CHAIN.all_below(150), list(range(151, 200)))
        self.assertEqual(CHAIN.children(150), [151])
        self.assertEqual(CHAIN.common(199, 150), list(range(150, -1, -1)))
        self.assertEqual(CHAIN.apart(199, 150), list(range(199, 150, -1)))
        self.assertEqual(CHAIN.apart(150, 199), [])
        self.assertEqual([CHAIN.place(199, 0), CHAIN.place(0, 199), CHAIN.place(199, 199)], ["below", "out", "here"])

    def test_star(self):
        self.assertEqual(len(STAR), 200)
        self.assertEqual(STAR.children(0), list(range(1, 200)))
        self.assertEqual(STAR.all_below(0), list(range(1, 200)))
        self.assertEqual([STAR.children(199), STAR.all_below(1), STAR.way(199), STAR.depth(199)],
                         [[], [], [199, 0], 1])
        self.assertEqual([STAR.common(198, 199), STAR.apart(198, 199), STAR.place(198, 199)], [[0], [198], "out"])

    def test_tree_of_two_hundred_groups(self):
        self.assertEqual(len(HEAP), 200)
        self.assertEqual(HEAP.way(199), [199, 99, 49, 24, 11, 5, 2, 0])
        self.assertEqual([HEAP.depth(199), HEAP.children(99), HEAP.children(100)], [7, [199], []])
        self.assertEqual(HEAP.all_below(24), [49, 50, 99, 100, 101, 102, 199])
        self.assertEqual(HEAP.common(199, 50), [24, 11, 5, 2, 0])
        self.assertEqual([HEAP.apart(199, 50), HEAP.apart(50, 199)], [[199, 99, 49], [50]])

    def test_strike_a_chain_from_its_end(self):
        tree = CHAIN
        for group in range(199, 0, -1):
            if group > 1:
                self.assert_raises(HasChildren, {"group": group - 1}, tree.with_struck, group - 1)
            tree = tree.with_struck(group)
        self.assertEqual(tree.struck(), list(range(1, 200)))
        self.assertEqual(CHAIN.struck(), [])
        self.assert_raises(IsTop, {}, tree.with_struck, 0)

    def test_grow_to_two_hundred_groups(self):
        tree = Tree()
        for group in range(199):
            tree = tree.with_group(group)
        self.assertEqual(tree, CHAIN)
        for full in (CHAIN, STAR, HEAP):
            for group in (0, 1, 199):
                self.assert_raises(TooMany, {"what": "groups", "limit": 200}, full.with_group, group)


class TestConstructor(TestTree):

    def test_top_alone(self):
        for tree in (Tree(), Tree([]), Tree(()), Tree([], []), Tree((), ())):
            self.assertEqual([len(tree), tree.parents(), tree.struck()], [1, [], []])
            self.assertEqual([tree.parent(0), tree.children(0), tree.way(0), tree.depth(0)], [None, [], [0], 0])
            self.assertEqual([tree.is_struck(0), tree.all_below(0), tree.place(0, 0)], [False, [], "here"])
            self.assertEqual([tree.common(0, 0), tree.apart(0, 0), tree.is_below(0, 0)], [[0], [], False])

    def test_parents_that_are_no_list(self):
        for value in NO_LISTS:
            self.assert_raises(InvalidParents, {"position": None}, Tree, value)

    def test_parents_that_are_no_counts(self):
        for value in NO_INTEGERS + [-1, -10 ** 30]:
            self.assert_raises(InvalidParents, {"position": 0}, Tree, [value])
            self.assert_raises(InvalidParents, {"position": 2}, Tree, (0, 1, value))
            self.assert_raises(InvalidParents, {"position": 1}, Tree, [0, value, 0, value])

    def test_parents_up_to_their_position(self):
        for at in range(5):
            before = [0] * at
            for parent in range(at + 1):
                self.assertEqual(Tree(before + [parent, 0]).parents(), before + [parent, 0])
            for parent in (at + 1, at + 2, 10 ** 30):
                self.assert_raises(InvalidParents, {"position": at}, Tree, before + [parent, 0])

    def test_most_groups(self):
        self.assertEqual(len(Tree([0] * 199)), 200)
        for many in (200, 201, 20000):
            self.assert_raises(TooMany, {"what": "groups", "limit": 200}, Tree, [0] * many)

    def test_struck_that_is_no_list(self):
        for value in NO_LISTS:
            self.assert_raises(InvalidStruck, {"position": None}, Tree, [0], value)
            self.assert_raises(InvalidStruck, {"position": None}, Tree, struck=value)

    def test_struck_that_are_no_groups(self):
        for value in NO_INTEGERS + [0, -1, 3, 10 ** 30]:
            self.assert_raises(InvalidStruck, {"position": 0}, Tree, [0, 0], [value])
            self.assert_raises(InvalidStruck, {"position": 1}, Tree, [0, 0], (2, value, value))
        self.assert_raises(InvalidStruck, {"position": 0}, Tree, [], [0])
        self.assert_raises(InvalidStruck, {"position": 0}, Tree, [], [1])

    def test_all_short_lists_of_struck_groups(self):
        for parents in small_parents(4):
            for size in range(5):
                for struck in itertools.product([0, 1, 2, 3, True, None], repeat=size):
                    at = struck_fault(parents, struck)
                    if at < 0:
                        self.assertEqual(Tree(parents, struck).struck(), sorted(struck))
                        self.assertEqual(Tree(list(parents), list(struck)).struck(), sorted(struck))
                    else:
                        self.assert_raises(InvalidStruck, {"position": at}, Tree, parents, struck)

    def test_struck_without_a_child(self):
        self.assert_raises(InvalidStruck, {"position": 1}, Tree, [0, 0, 2], [1, 2])
        self.assert_raises(InvalidStruck, {"position": 0}, Tree, [0, 1, 2, 2], [2, 3, 1])
        self.assert_raises(InvalidStruck, {"position": 2}, Tree, [0, 1, 2, 0, 4], [3, 2, 4, 1])
        self.assert_raises(InvalidStruck, {"position": 198}, Tree, list(range(199)), [*range(2, 199), 199, 199])
        self.assertEqual(Tree(list(range(199)), list(range(199, 0, -1))).struck(), list(range(1, 200)))

    def test_a_struck_that_is_invalid_comes_ahead_of_one_without_a_child(self):
        self.assert_raises(InvalidStruck, {"position": 1}, Tree, [0, 1], [1, 7])
        self.assert_raises(InvalidStruck, {"position": 2}, Tree, [0, 1, 0], [1, 3, 1])
        self.assert_raises(InvalidStruck, {"position": 2}, Tree, [0, 1, 0], [1, 3, True])

    def test_which_error_comes_first(self):
        self.assert_raises(InvalidParents, {"position": None}, Tree, None, None)
        self.assert_raises(InvalidParents, {"position": 0}, Tree, [1], [0])
        self.assert_raises(InvalidParents, {"position": 250}, Tree, [0] * 250 + [True], [0])
        self.assert_raises(InvalidParents, {"position": 300}, Tree, [0] * 300 + [301])
        self.assert_raises(TooMany, {"what": "groups", "limit": 200}, Tree, [0] * 200, None)
        self.assert_raises(TooMany, {"what": "groups", "limit": 200}, Tree, [0] * 200, [0])


class TestGroupErrors(TestTree):

    def test_values_that_are_no_group(self):
        for tree in (Tree(), Tree([0, 0, 1, 2], [3])):
            for value in NO_INTEGERS + [-1, -len(tree), len(tree), 10 ** 30]:
                for name, names in METHODS.items():
                    call = getattr(tree, name)
                    if len(names) == 1:
                        self.assert_raises(InvalidGroup, {"value": value}, call, value)
                    if len(names) == 2:
                        self.assert_raises(InvalidGroup, {"value": value}, call, value, 0)
                        self.assert_raises(InvalidGroup, {"value": value}, call, 0, value)

    def test_group_comes_ahead_of_seen(self):
        for name in ("is_below", "place", "common", "apart"):
            call = getattr(Tree([0]), name)
            for group, seen in itertools.permutations([True, "x", -1, 2, None], 2):
                self.assert_raises(InvalidGroup, {"value": group}, call, group, seen)
                self.assert_raises(InvalidGroup, {"value": group}, call, seen=seen, group=group)

    def test_struck_comes_ahead_of_too_many(self):
        full = Tree([0] * 199, [7])
        self.assert_raises(Struck, {"group": 7}, full.with_group, 7)
        self.assert_raises(InvalidGroup, {"value": 200}, full.with_group, 200)
        self.assert_raises(TooMany, {"what": "groups", "limit": 200}, full.with_group, 8)

    def test_top_comes_ahead_of_children(self):
        self.assert_raises(IsTop, {}, Tree([0]).with_struck, 0)
        self.assert_raises(IsTop, {}, Tree().with_struck, 0)

    def test_struck_groups_with_struck_children(self):
        tree = Tree([0, 1], [1, 2])
        self.assert_raises(Struck, {"group": 1}, tree.with_struck, 1)
        self.assert_raises(Struck, {"group": 2}, tree.with_struck, 2)

    def test_one_child_that_is_not_struck(self):
        tree = Tree([0, 1, 1], [2])
        self.assert_raises(HasChildren, {"group": 1}, tree.with_struck, 1)
        self.assertEqual(tree.with_struck(3).with_struck(1), Tree([0, 1, 1], [1, 2, 3]))

    def test_nothing_changes_behind_an_error(self):
        tree = Tree([0, 1, 1], [2])
        for name, value in (("with_struck", 0), ("with_struck", 1), ("with_struck", 2), ("with_group", 2),
                            ("with_group", True), ("way", 9)):
            with self.assertRaises(Exception):
                getattr(tree, name)(value)
            self.assertEqual(repr(tree), "Tree([0, 1, 1], [2])")


class TestCopies(TestTree):

    def test_lists_that_were_passed(self):
        parents, struck = [0, 0, 1], [3, 2]
        tree = Tree(parents, struck)
        self.assertEqual((parents, struck), ([0, 0, 1], [3, 2]))
        parents[2] = 0
        parents.append(0)
        struck.clear()
        self.assertEqual((len(tree), tree.parents(), tree.struck()), (4, [0, 0, 1], [2, 3]))
        self.assertEqual([tree.way(3), tree.is_struck(3)], [[3, 1, 0], True])

    def test_lists_that_were_returned(self):
        tree = Tree([0, 0, 1, 1], [3, 4])
        args = {"parents": [], "struck": [], "children": [1], "way": [3], "all_below": [0], "common": [3, 4],
                "apart": [3, 2]}
        for name, values in args.items():
            found = getattr(tree, name)(*values)
            before = list(found)
            self.assertTrue(before)
            found[0] = 9
            found.append(7)
            found.reverse()
            self.assertEqual(getattr(tree, name)(*values), before)
        self.assertEqual(repr(tree), "Tree([0, 0, 1, 1], [3, 4])")

    def test_elder_trees_stay(self):
        old = Tree([0], [])
        grown = old.with_group(1)
        behind = grown.with_struck(2)
        last = behind.with_group(1)
        shown = [repr(tree) for tree in (old, grown, behind, last)]
        self.assertEqual(shown, ["Tree([0], [])", "Tree([0, 1], [])", "Tree([0, 1], [2])", "Tree([0, 1, 1], [2])"])
        self.assertEqual([tree.children(1) for tree in (old, grown, behind, last)], [[], [2], [2], [2, 3]])
        self.assertEqual([len(tree) for tree in (old, grown, behind, last)], [2, 3, 3, 4])
        self.assertEqual([grown.is_struck(2), behind.is_struck(2)], [False, True])


class TestEqualAndShown(TestTree):

    def test_equal_trees(self):
        self.assertIs(Tree() == Tree([], ()), True)
        self.assertIs(Tree([0, 0, 1], [3, 2]) == Tree((0, 0, 1), (2, 3)), True)
        self.assertIs(Tree([0, 0, 1], [3, 2]) != Tree((0, 0, 1), (2, 3)), False)
        self.assertEqual(Tree([0]).with_group(0).with_struck(2), Tree([0, 0], [2]))

    def test_small_trees_are_equal_only_to_themselves(self):
        found = list(small_trees(4))
        for (parents, struck, tree), (others, hit, other) in itertools.product(found, repeat=2):
            self.assertIs(tree == other, (parents, struck) == (others, hit))
            self.assertIs(tree != other, (parents, struck) != (others, hit))

    def test_values_of_another_kind(self):
        for value in (None, 1, True, "Tree([], [])", [], (), [[], []], ([], []), {}, object(), Tree, Book()):
            self.assertIs(Tree() == value, False)
            self.assertIs(value == Tree(), False)
            self.assertIs(Tree() != value, True)

    def test_repr(self):
        self.assertEqual(repr(Tree([0, 0, 1], [3])), "Tree([0, 0, 1], [3])")
        self.assertEqual(repr(Tree()), "Tree([], [])")
        self.assertEqual(repr(Tree((0,), ())), "Tree([0], [])")
        self.assertEqual(repr(Tree((0, 0, 1), (3, 1))), "Tree([0, 0, 1], [1, 3])")
        for _, _, tree in small_trees(5):
            self.assertEqual(eval(repr(tree), {"Tree": Tree}), tree)


if __name__ == "__main__":
    unittest.main()
