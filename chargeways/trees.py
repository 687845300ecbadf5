"""Groups that hang in a tree, some of them struck."""

from chargeways.checks import is_an_integer, is_list
from chargeways.errors import HasChildren, InvalidGroup, InvalidParents, InvalidStruck, IsTop, Struck, TooMany

MOST_GROUPS = 200


def check_group(tree, value):
    """Raise InvalidGroup unless the value is the number of a group of the tree."""
    if not is_an_integer(value) or not 0 <= value < len(tree):
        raise InvalidGroup(value)


def check_parents(parents):
    """Raise the first error of the parents of the groups from 1 on."""
    if not is_list(parents):
        raise InvalidParents(None)
    for position, parent in enumerate(parents):
        # the parent at the place k is that of the group k + 1, so at most k
        if not is_an_integer(parent) or not 0 <= parent <= position:
            raise InvalidParents(position)
    if len(parents) + 1 > MOST_GROUPS:
        raise TooMany("groups", MOST_GROUPS)


def check_struck(parents, struck):
    """Raise the first error of the struck groups of a tree with these parents."""
    if not is_list(struck):
        raise InvalidStruck(None)
    seen = set()
    for position, group in enumerate(struck):
        if not is_an_integer(group) or not 1 <= group <= len(parents) or group in seen:
            raise InvalidStruck(position)
        seen.add(group)
    needed = [parent for child, parent in enumerate(parents, start=1) if child not in seen]
    for position, group in enumerate(struck):
        if group in needed:
            raise InvalidStruck(position)


class Tree:
    """A tree of groups that never changes."""

    def __init__(self, parents=(), struck=()):
        check_parents(parents)
        check_struck(parents, struck)
        self._above = [None, *parents]
        self._struck = sorted(struck)

    def __len__(self):
        return len(self._above)

    def __eq__(self, other):
        return isinstance(other, Tree) and self._above == other._above and self._struck == other._struck

    def __repr__(self):
        return f"Tree({self.parents()!r}, {self._struck!r})"

    def parents(self):
        """The list of the parents of the groups from 1 on."""
        return self._above[1:]

    def struck(self):
        """The sorted list of the struck groups."""
        return list(self._struck)

    def parent(self, group):
        """The parent of the group, None of the top."""
        check_group(self, group)
        return self._above[group]

    def children(self, group):
        """The sorted list of the groups whose parent this is."""
        check_group(self, group)
        return [child for child, parent in enumerate(self._above) if parent == group]

    def way(self, group):
        """The list of the group, its parent, and so on, up to the top."""
        check_group(self, group)
        found = [group]
        while found[-1] > 0:
            found.append(self._above[found[-1]])
        return found

    def depth(self, group):
        """How many groups stand behind the group on its way."""
        return len(self.way(group)) - 1

    def is_struck(self, group):
        """Whether the group is struck."""
        check_group(self, group)
        return group in self._struck

    def is_below(self, group, seen):
        """Whether the group is below the group seen."""
        return self.place(group, seen) == "below"

    def place(self, group, seen):
        """Where the group is, as it is seen from the group seen: "below", "here" or "out"."""
        way = self.way(group)
        check_group(self, seen)
        if seen not in way:
            return "out"
        return "here" if group == seen else "below"

    def all_below(self, group):
        """The sorted list of all groups below the group."""
        check_group(self, group)
        return [other for other in range(len(self)) if self.is_below(other, group)]

    def common(self, group, seen):
        """The list of the groups that the ways of both groups have, in their sequence."""
        way = self.way(group)
        other = self.way(seen)
        return [step for step in way if step in other]

    def apart(self, group, seen):
        """The list of the groups of the way of group that the way of seen has not."""
        way = self.way(group)
        other = self.way(seen)
        return [step for step in way if step not in other]

    def with_group(self, group):
        """The tree with one more group, whose parent is this one."""
        if self.is_struck(group):
            raise Struck(group)
        return Tree(self.parents() + [group], self._struck)

    def with_struck(self, group):
        """The tree in which this group is struck as well."""
        check_group(self, group)
        if group == 0:
            raise IsTop()
        if self.is_struck(group):
            raise Struck(group)
        if any([not self.is_struck(child) for child in self.children(group)]):
            raise HasChildren(group)
        return Tree(self.parents(), self._struck + [group])
