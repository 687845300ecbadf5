"""Boards: what a run has at the moment, and what each deed has replaced, so that it can be taken back."""

from chargeways.trees import Tree


class Board:
    """What is told of each key at the moment; a key of which nothing is told is not there.

    The keys are "tree" and "things" (how many); ("count", group) and ("limit", group); ("lives", thing) and
    ("home", thing); ("charge", group, thing); ("walk", hand) and ("stock", hand).
    """

    def __init__(self):
        self.now = {"tree": Tree(), "things": 0}
        self._replaced = []
        self._done = []

    def told(self, key, default=None):
        """What is told of the key, the default if nothing is."""
        return self.now.get(key, default)

    def put(self, key, value):
        """Tell this value of the key, None for nothing, as a part of the deed that is being done."""
        self._replaced.append((key, self.now.get(key)))
        self._set(key, value)

    def grow(self, key, number):
        """Make the number that is told of the key greater, as a part of the deed that is being done."""
        self.put(key, self.now.get(key, 0) + number)

    def _set(self, key, value):
        if value is None:
            self.now.pop(key, None)
        else:
            self.now[key] = value

    def close(self, deed):
        """Note that this deed is done, with all that was put since the one ahead of it."""
        self._done.append((deed, self._replaced))
        self._replaced = []

    def how_many_done(self):
        """How many deeds were done and not taken back."""
        return len(self._done)

    def deeds_done(self):
        """The list of the deeds that were done and not taken back."""
        return [deed for deed, _ in self._done]

    def take_back(self):
        """Take back the last deed, and return it."""
        deed, replaced = self._done.pop()
        for key, value in reversed(replaced):
            self._set(key, value)
        return deed

    def twin(self):
        """A board of its own, equal in all."""
        other = Board()
        other.now = {key: self.now[key] for key in self.now}
        other._done = list(self._done)
        return other
