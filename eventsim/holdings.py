"""Holdings: which request of a process holds a unit from when to when."""

from eventsim.scripts import Rest


class Holding:
    """The requests of one process for the units of one resource, told apart by following its events.

    Events do not name requests, but their order and the ranks in the script decide which one is meant.
    """

    def __init__(self, script, resource):
        self._rest = Rest(script)
        self._resource = resource
        # Pairs (rank, row) of the requests that hold a unit, in the order of their numbers.
        self._held = []
        # The place among them and the rank of the request that lost its unit, or None; there is at most one.
        self._lost = None

    def hold(self, row):
        """Let the request that lost its unit hold one, or the next one of the script; the row stands for this time."""
        if self._lost is None:
            self._lost = (len(self._held), self._next_rank())
        place, rank = self._lost
        self._held.insert(place, (rank, row))
        self._lost = None

    def give(self):
        """End the request that a give ends, and return its row."""
        return self._held.pop()[1]

    def lose(self):
        """Let the request that is preempted lose its unit, and return its row."""
        rank, place = max([(held_rank, at) for at, (held_rank, _) in enumerate(self._held)])
        self._lost = (place, rank)
        return self._held.pop(place)[1]

    def _next_rank(self):
        """Return the rank of the next take of the resource."""
        instruction = self._rest.begin()
        while instruction[:2] != ("take", self._resource):
            instruction = self._rest.begin()
        return instruction[2]
