"""Simulations: runs in progress."""

from eventsim.checks import check_index, check_number, check_time
from eventsim.limits import LAST_TIME
from eventsim.models import check_model
from eventsim.runs import Run
from eventsim.texts import parse_model


class Simulation:
    """The run of a model, as far as it has come, and the horizon up to which it may go on."""

    MOST_EVENTS = 3000

    def __init__(self, model, *, horizon=100):
        check_model(model)
        check_time(horizon, "the horizon")
        self.model = model
        self._run = Run(model)
        self._horizon = horizon

    @classmethod
    def read(cls, text):
        """Return a new simulation of the model with a text."""
        return cls(parse_model(text))

    def __len__(self):
        return len(self._run.history)

    def __eq__(self, other):
        return (
            isinstance(other, Simulation)
            and self.model == other.model
            and self._horizon == other._horizon
            and self._run.clock == other._run.clock
            and self._run.removed == other._run.removed
        )

    def __repr__(self):
        return f"Simulation({len(self.model[3])} processes, time {self._run.clock})"

    @property
    def now(self):
        """The present time."""
        return self._run.clock

    @property
    def next_time(self):
        """The time of the first entry of the agenda, or None if there is none."""
        rows = self._run.agenda.rows()
        return rows[0][0] if rows else None

    @property
    def finished(self):
        """The tuple of the finished processes."""
        return tuple([at for at in range(len(self.model[3])) if self._run.status(at) == ("finished",)])

    @property
    def horizon(self):
        """The last time to which the simulation may go on."""
        return self._horizon

    @horizon.setter
    def horizon(self, value):
        self.set_horizon(value)

    def set_horizon(self, value):
        """Set the horizon, which is not before now."""
        check_number(value, self._run.clock, LAST_TIME, "the horizon")
        self._horizon = value

    def step(self):
        """Let the process of the first entry act, if its time is not beyond the horizon; return the events."""
        if not self._has_next():
            return ()
        before = len(self)
        self._run.step()
        return self._events_since(before)

    def advance(self, time):
        """Go on to a time; return the events."""
        check_number(time, self._run.clock, self._horizon, "the time")
        before = len(self)
        self._run.advance(time)
        return self._events_since(before)

    def events(self):
        """Go on to the horizon, step by step; yield the events one by one."""
        while self._has_next():
            happened = self.step()
            for event in happened:
                yield event

    def _has_next(self):
        """Return whether there is an entry whose time is not beyond the horizon."""
        time = self.next_time
        return time is not None and time <= self._horizon

    def _events_since(self, before):
        """Return the tuple of the events behind the first ones, which are so many."""
        return tuple(self._run.history[before:])

    def status(self, process):
        """Return the status of a process."""
        check_index(process, self.model[3], "the process")
        return self._run.status(process)

    def left(self, process):
        """Return what is left of the script of a process."""
        check_index(process, self.model[3], "the process")
        return self._run.rests[process].remaining()

    def queue(self, resource):
        """Return a new line that is equal to that of a resource."""
        check_index(resource, self.model[0], "the resource")
        return self._run.lines[resource].copy()

    def items(self, store):
        """Return the tuple of the items of a store, the oldest one first."""
        return self.stock(store)

    def stock(self, store):
        """Return the same as items; the package calls this one, as the name items also belongs to dicts."""
        check_index(store, self.model[1], "the store")
        return tuple(self._run.stores[store].kept)

    def is_open(self, gate):
        """Return whether a gate is open."""
        check_index(gate, self.model[2], "the gate")
        return self._run.gates[gate].word == "open"

    def copy(self):
        """Return an equal simulation; what is done to one does not affect the other."""
        twin = Simulation(self.model, horizon=self._horizon)
        twin._run = self._run.copy()
        return twin

    def trial(self):
        """Return a context manager: when its block is left, the simulation is as it was when it was entered."""
        return Trial(self)


class Trial:
    """A block after which a simulation is again as it was before."""

    def __init__(self, simulation):
        self._simulation = simulation
        # What the simulation had when the block was entered.
        self._run = None
        self._horizon = None

    def __enter__(self):
        self._run = self._simulation._run.copy()
        self._horizon = self._simulation._horizon
        return self._simulation

    def __exit__(self, kind, value, trace):
        simulation = self._simulation
        simulation._run = self._run
        simulation._horizon = self._horizon


def peek(simulation, time):
    """Return the events of advancing to a time, without changing the simulation."""
    return simulation.copy().advance(time)
