"""Charges that go up a tree of groups, and what can become of one of them."""
