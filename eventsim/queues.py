"""Lines: they decide who gets the units of a resource.

Each class defines all methods of the interface itself, also where a base class has the same.
"""

from eventsim.checks import check_number
from eventsim.errors import HoldError, NumberError
from eventsim.limits import LAST_PROCESS, LAST_RANK


def _check_process(process):
    check_number(process, 0, LAST_PROCESS, "a process")


def _check_rank(rank):
    check_number(rank, 0, LAST_RANK, "a rank")


def _check_victims(victims):
    if not isinstance(victims, tuple):
        raise NumberError("the victims must be a tuple of processes")
    for victim in victims:
        _check_process(victim)


def _are_alike(one, other):
    """Return whether two lines are of the same class with the same units and requests."""
    return (
        one.__class__.__name__ == other.__class__.__name__
        and one._units == other._units
        and one._requests == other._requests
    )


class Line:
    """A line that serves requests in the order of their numbers."""

    MOST_UNITS = 3

    def __init__(self, units):
        check_number(units, 1, self.MOST_UNITS, "the number of units")
        self._units = units
        # Triples (rank, process, whether it holds a unit), in the order of the numbers of the requests.
        self._requests = []

    def __eq__(self, other):
        return isinstance(other, Line) and _are_alike(self, other)

    def __repr__(self):
        return f"Line({self._units} units, {self.length} waiting)"

    @property
    def free(self):
        """The number of free units."""
        return self._units - len(self.holders())

    @property
    def length(self):
        """The number of waiting requests."""
        return len(self.waiting())

    def request(self, process, rank):
        """Make a request and return whether it holds a unit at once."""
        _check_process(process)
        _check_rank(rank)
        holds = self.free > 0
        self._requests.append((rank, process, holds))
        return holds

    def release(self, process):
        """End a request of a process that holds a unit; return the process that holds this unit now, or None."""
        _check_process(process)
        held = [at for at, (_, owner, holds) in enumerate(self._requests) if holds and owner == process]
        if not held:
            raise HoldError(f"process {process} holds no unit")
        del self._requests[held[-1]]
        places = self._served()
        if not places:
            return None
        rank, follower, _ = self._requests[places[0]]
        self._requests[places[0]] = (rank, follower, True)
        return follower

    def holders(self):
        """Return (rank, process) for all requests that hold a unit, in the order of their numbers."""
        return tuple([(rank, process) for rank, process, holds in self._requests if holds])

    def waiting(self):
        """Return (rank, process) for all waiting requests, in the order in which they will be served."""
        return tuple([self._requests[at][:2] for at in self._served()])

    def requests(self):
        """Return (rank, process, whether it holds a unit) for all requests, in the order of their numbers."""
        return tuple(self._requests)

    def copy(self):
        """Return an equal line; what is done to one does not affect the other."""
        return self._handed_to(Line(self._units))

    def _handed_to(self, twin):
        """Give a new line the same requests, and return it."""
        twin._requests = list(self._requests)
        return twin

    def _served(self):
        """Return the places of the waiting requests, in the order in which they will be served."""
        return [at for at, row in enumerate(self._requests) if not row[2]]


class RankLine(Line):
    """A line that serves the request with the least rank first."""

    MOST_UNITS = 3

    def __eq__(self, other):
        return isinstance(other, RankLine) and _are_alike(self, other)

    def __repr__(self):
        return f"RankLine({self._units} units, {self.length} waiting)"

    @property
    def free(self):
        """The number of free units."""
        return self._units - len(self.holders())

    @property
    def length(self):
        """The number of waiting requests."""
        return len(self.waiting())

    def request(self, process, rank):
        """Make a request and return whether it holds a unit at once."""
        return super().request(process, rank)

    def release(self, process):
        """End a request of a process that holds a unit; return the process that holds this unit now, or None."""
        return super().release(process)

    def holders(self):
        """Return (rank, process) for all requests that hold a unit, in the order of their numbers."""
        return super().holders()

    def waiting(self):
        """Return (rank, process) for all waiting requests, in the order in which they will be served."""
        return super().waiting()

    def copy(self):
        """Return an equal line; what is done to one does not affect the other."""
        return self._handed_to(RankLine(self._units))

    def _served(self):
        """Return the places of the waiting requests, in the order in which they will be served."""
        places = super()._served()
        return [pair[1] for pair in sorted([(self._requests[at][0], at) for at in places])]


class PreemptLine(RankLine):
    """A line like RankLine, in which a new request may take the unit of another one."""

    MOST_UNITS = 3

    def __eq__(self, other):
        return isinstance(other, PreemptLine) and _are_alike(self, other)

    def __repr__(self):
        return f"PreemptLine({self._units} units, {self.length} waiting)"

    @property
    def free(self):
        """The number of free units."""
        return self._units - len(self.holders())

    @property
    def length(self):
        """The number of waiting requests."""
        return len(self.waiting())

    def request(self, process, rank):
        """Make a request and return whether it holds a unit at once."""
        return super().request(process, rank)

    def release(self, process):
        """End a request of a process that holds a unit; return the process that holds this unit now, or None."""
        return super().release(process)

    def holders(self):
        """Return (rank, process) for all requests that hold a unit, in the order of their numbers."""
        return super().holders()

    def waiting(self):
        """Return (rank, process) for all waiting requests, in the order in which they will be served."""
        return super().waiting()

    def preempt(self, process, rank, victims):
        """Make a request that takes the unit of another one; return the process of the other one, or None."""
        _check_process(process)
        _check_rank(rank)
        _check_victims(victims)
        if self.free > 0:
            return None
        at = self._victim(rank, victims)
        if at is None:
            return None
        lost_rank, victim, _ = self._requests[at]
        self._requests[at] = (lost_rank, victim, False)
        self._requests.append((rank, process, True))
        return victim

    def copy(self):
        """Return an equal line; what is done to one does not affect the other."""
        return self._handed_to(PreemptLine(self._units))

    def _victim(self, rank, victims):
        """Return the place of the request that would lose its unit, or None."""
        places = [
            (held_rank, at)
            for at, (held_rank, owner, holds) in enumerate(self._requests)
            if holds and held_rank > rank and owner in victims
        ]
        return max(places)[1] if places else None
