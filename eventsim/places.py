"""Stores and gates, and those who wait at them."""


class Store:
    """Some items, and the processes that wait to get one or to put one more."""

    def __init__(self, capacity, kept):
        self.capacity = capacity
        # The oldest item first, and so with those who wait; putters are pairs (process, item).
        self.kept = list(kept)
        self.getters = []
        self.putters = []

    def copy(self):
        """Return an equal store; what happens to one does not affect the other."""
        twin = Store(self.capacity, self.kept)
        twin.getters = list(self.getters)
        twin.putters = list(self.putters)
        return twin

    def is_full(self):
        """Return whether no further item can be added."""
        return len(self.kept) == self.capacity


class Gate:
    """A gate with its word, "open" or "shut", and the processes that wait at it."""

    def __init__(self, word):
        self.word = word
        self.passers = []

    def copy(self):
        """Return an equal gate; what happens to one does not affect the other."""
        twin = Gate(self.word)
        twin.passers = list(self.passers)
        return twin
