"""Traces: the events of a run, and the situations between them."""

from eventsim.checks import check_index, check_time, is_same
from eventsim.errors import SituationError
from eventsim.limits import LAST_TIME
from eventsim.models import check_model
from eventsim.runs import Run
from eventsim.simulation import Simulation
from eventsim.situations import snapshot


def trace(model, horizon):
    """Return the tuple of all events up to the horizon."""
    check_model(model)
    check_time(horizon, "the horizon")
    return _happened(Run(model, Simulation.MOST_EVENTS), horizon)


def own_trace(model, process, horizon):
    """Return the tuple of all events of one process up to the horizon."""
    check_model(model)
    check_index(process, model[3], "the process")
    check_time(horizon, "the horizon")
    return tuple([event for event in _happened(Run(model, Simulation.MOST_EVENTS), horizon) if event[1] == process])


def _happened(run, horizon):
    """Return the tuple of all events of a run up to the horizon."""
    run.advance(horizon)
    return tuple(run.history)


def situation(model, time):
    """Return the situation after a time."""
    check_model(model)
    check_time(time, "the time")
    run = Run(model)
    run.advance(time)
    return snapshot(run)


def moment_of(model, thing):
    """Return the least time up to 200 after which the model has this situation, or None."""
    check_model(model)
    run = Run(model)
    for time in range(LAST_TIME + 1):
        run.advance(time)
        if is_same(thing, snapshot(run)):
            return time
    return None


def resume(model, situation, length):
    """Return the tuple of all events that follow after a situation within a length of time, counted from there."""
    moment = moment_of(model, situation)
    if moment is None:
        raise SituationError("the model never has this situation")
    check_time(length, "the length")
    run = Run(model)
    run.advance(moment)
    before = len(run.history)
    run.advance(moment + length)
    return tuple([(event[0] - moment, *event[1:]) for event in run.history[before:]])


def first_difference(one, other, horizon):
    """Return (index, event, event) for the first difference between the traces of two models, or None."""
    check_model(one)
    check_model(other)
    check_time(horizon, "the horizon")
    first = _happened(Run(one), horizon)
    second = _happened(Run(other), horizon)
    if first == second:
        return None
    index = 0
    while index < min(len(first), len(second)) and first[index] == second[index]:
        index += 1
    return index, _event_at(first, index), _event_at(second, index)


def _event_at(history, index):
    """Return the event at an index of a trace, or None if the trace has ended there."""
    return history[index] if index < len(history) else None
