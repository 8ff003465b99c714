"""Runs of models: what happens, entry by entry of the agenda."""

from eventsim.agendas import Agenda
from eventsim.effects import EFFECTS
from eventsim.errors import LimitError
from eventsim.places import Gate, Store
from eventsim.queues import Line, PreemptLine, RankLine
from eventsim.scripts import Rest


def new_line(discipline, units):
    """Return an empty line of the class that belongs to a discipline."""
    if discipline == "fifo":
        return Line(units)
    if discipline == "rank":
        return RankLine(units)
    return PreemptLine(units)


class Run:
    """The run of a model, as far as it has come; the history has its events.

    It raises LimitError before it has more events than the given limit; None means that there is no limit.
    """

    def __init__(self, model, limit=None):
        resources, stores, gates, scripts = model
        self._model = model
        self._limit = limit
        self.clock = 0
        # How many entries of the agenda have come up.
        self.removed = 0
        self.history = []
        self.lines = [new_line(discipline, units) for discipline, units in resources]
        self.stores = [Store(capacity, kept) for capacity, kept in stores]
        self.gates = [Gate(word) for word in gates]
        self.rests = [Rest(script) for script in scripts]
        # When the present sleep of each process began, also of one that is over and that has not woken up yet.
        self._began = [None for _ in scripts]
        # The status with which each process stood still last; it counts while the process has no entry.
        self._halts = [None for _ in scripts]
        self.agenda = Agenda()
        for process in range(len(scripts)):
            self.schedule(process)

    def copy(self):
        """Return an equal run; later steps of one do not affect the other."""
        twin = Run(self._model, self._limit)
        twin.clock = self.clock
        twin.removed = self.removed
        twin.history = list(self.history)
        twin.lines = [line.copy() for line in self.lines]
        twin.stores = [store.copy() for store in self.stores]
        twin.gates = [gate.copy() for gate in self.gates]
        twin.rests = [rest.copy() for rest in self.rests]
        twin._began = list(self._began)
        twin._halts = list(self._halts)
        twin.agenda = self.agenda.copy()
        return twin

    def advance(self, time):
        """Go on until all entries with times up to the given one are removed."""
        rows = self.agenda.rows()
        while rows and rows[0][0] <= time:
            self.step()
            rows = self.agenda.rows()
        self.clock = time

    def step(self):
        """Remove the first entry of the agenda, and let its process act."""
        time, process = self.agenda.rows()[0]
        self.agenda.drop(process)
        self.removed += 1
        self.clock = time
        if self._began[process] is not None:
            self._began[process] = None
            self.note(process, "wake")
        self._act(process)

    def _act(self, process):
        """Execute instructions of a process until it sleeps, blocks or ends."""
        instruction = self.rests[process].begin()
        while instruction is not None:
            effect = EFFECTS[instruction[0]]
            numbers = instruction[1:]
            if not effect(self, process, *numbers):
                return
            instruction = self.rests[process].begin()
        self.note(process, "end")
        self.halt(process, ("finished",))

    def status(self, process):
        """Return the status of a process; none acts at the moment."""
        time = self.agenda.time_of(process)
        if time is None:
            return self._halts[process]
        if time > self.clock:
            return ("asleep", time - self.clock)
        return ("ready",)

    def note(self, process, word, *numbers):
        """Add an event of the present time to the history."""
        if len(self.history) == self._limit:
            raise LimitError(self._limit)
        self.history.append((self.clock, process, word, *numbers))

    def schedule(self, process):
        """Let a process continue later at the present time."""
        self.agenda.enter(self.clock, process)

    def halt(self, process, status):
        """Let a process stand still, with the given status, until somebody makes an entry for it."""
        self._halts[process] = status

    def sleep(self, process, time):
        """Let a process sleep so long."""
        self._began[process] = self.clock
        self.agenda.enter(self.clock + time, process)

    def suspend(self, process, resource):
        """Interrupt the sleep of a process that lost a unit of a resource."""
        self.halt(process, ("suspended", resource, self.agenda.time_of(process) - self.clock))
        self.agenda.drop(process)

    def serve(self, process):
        """Let a process go on that got the unit for which it waited."""
        status = self._halts[process]
        if status[0] == "suspended":
            self.sleep(process, status[2])
        else:
            self.schedule(process)

    def sleepers(self):
        """Return the tuple of the processes that are asleep."""
        return tuple([process for time, process in self.agenda.rows() if time > self.clock])

    def can_be_roused(self, process):
        """Return whether a process is asleep and its present sleep began before now."""
        return process in self.sleepers() and self._began[process] < self.clock
