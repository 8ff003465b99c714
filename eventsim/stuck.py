"""Stuck sets: processes that wait for one another for ever."""

from eventsim.checks import check_index, check_time, is_between
from eventsim.models import check_model
from eventsim.runs import Run
from eventsim.scripts import occurs
from eventsim.situations import snapshot
from eventsim.traces import situation

# For each status of one who waits at a store or gate, the instruction that provides what it waits for.
PROVIDED_BY = {"empty": "put", "full": "get", "closed": "open"}


def providers(model, time, process):
    """Return all processes that can provide what a process waits for after a time."""
    view = situation(model, time)
    check_index(process, model[3], "the process")
    return tuple(_providers(view, process))


def is_stuck(model, time, thing):
    """Return whether a value is a stuck set after a time."""
    view = situation(model, time)
    if not isinstance(thing, tuple) or not all([is_between(part, 0, len(view[0]) - 1) for part in thing]):
        return False
    if list(thing) != sorted(set(thing)):
        return False
    return all([_waits(view, process) and _is_provided_within(view, process, thing) for process in thing])


def largest_stuck(model, time):
    """Return the stuck set after a time that contains all others."""
    return _largest(situation(model, time))


def first_stuck(model, horizon):
    """Return (time, set) for the least time up to the horizon with a stuck set that is not empty, or None."""
    check_model(model)
    check_time(horizon, "the horizon")
    run = Run(model)
    for time in range(horizon + 1):
        run.advance(time)
        found = _largest(snapshot(run))
        if found:
            return time, found
    return None


def _largest(view):
    """Return the largest stuck set of a situation."""
    members = []
    kept = [process for process in range(len(view[0])) if _waits(view, process)]
    # Whoever can be provided for by somebody outside is in no stuck set.
    while kept != members:
        members = kept
        kept = [process for process in members if _is_provided_within(view, process, members)]
    return tuple(members)


def _is_provided_within(view, process, members):
    """Return whether all who can provide what a process waits for are among the members."""
    return all([provider in members for provider in _providers(view, process)])


def _waits(view, process):
    return view[0][process][0][0] in ("suspended", "wants", "full", "empty", "closed")


def _providers(view, process):
    """Return a list of all processes that can provide what a process waits for in a situation."""
    if not _waits(view, process):
        return []
    status = view[0][process][0]
    return [provider for provider in range(len(view[0])) if _can_provide(view, provider, status)]


def _can_provide(view, provider, status):
    """Return whether a process can provide what one with this status waits for."""
    word, number = status[:2]
    if word in ("suspended", "wants"):
        return provider in [owner for _, owner, held in view[1][number] if held == "holds"]
    return occurs(PROVIDED_BY[word], number, view[0][provider][1])
