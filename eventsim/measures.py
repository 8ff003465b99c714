"""Measures: waiting times, lengths of lines, what is held, what flows, and marks."""

from eventsim.checks import check_index, check_number, check_time
from eventsim.holdings import Holding
from eventsim.limits import LAST_MARK, LAST_TIME
from eventsim.models import check_model
from eventsim.ratios import reduced
from eventsim.runs import Run


def _check_resource(model, resource, horizon):
    check_model(model)
    check_index(resource, model[0], "the resource")
    check_time(horizon, "the horizon")


def _happened(model, words, number, horizon):
    """Return a list of the events up to the horizon with one of the words and with this first number."""
    run = Run(model)
    run.advance(horizon)
    return [event for event in run.history if event[2] in words and event[3] == number]


def waits(model, resource, horizon):
    """Return (process, start, end) for each time that a process has waited for a resource."""
    _check_resource(model, resource, horizon)
    rows = []
    # For each process that waits, the place of its row.
    places = {}
    for time, process, word, _ in _happened(model, ("ask", "lose", "hold"), resource, horizon):
        if word != "hold":
            places[process] = len(rows)
            rows.append((process, time, horizon))
        elif process in places:
            place = places.pop(process)
            rows[place] = (process, rows[place][1], time)
    return tuple(rows)


def lengths(model, resource, horizon):
    """Return (time, number of waiting requests) for time 0 and for each time at which this number is another one."""
    _check_resource(model, resource, horizon)
    rows = []
    for time, length in enumerate(_all_lengths(model, resource, horizon)):
        if not rows or rows[-1][1] != length:
            rows.append((time, length))
    return tuple(rows)


def _all_lengths(model, resource, horizon):
    """Return a list of the numbers of waiting requests after each time up to the horizon."""
    run = Run(model)
    found = []
    for time in range(horizon + 1):
        run.advance(time)
        found.append(run.lines[resource].length)
    return found


def total_wait(model, resource, horizon):
    """Return the sum of all waiting times for a resource."""
    return sum([end - start for _, start, end in waits(model, resource, horizon)])


def area(model, resource, horizon):
    """Return the sum of the numbers of waiting requests after each time before the horizon."""
    _check_resource(model, resource, horizon)
    return sum(_all_lengths(model, resource, horizon)[:horizon])


def holds(model, resource, horizon):
    """Return (process, start, end) for each time that a request has held a unit of a resource."""
    _check_resource(model, resource, horizon)
    holdings = [Holding(script, resource) for script in model[3]]
    rows = []
    for time, process, word, _ in _happened(model, ("hold", "give", "lose"), resource, horizon):
        holding = holdings[process]
        if word == "hold":
            holding.hold(len(rows))
            rows.append((process, time, horizon))
        else:
            place = holding.give() if word == "give" else holding.lose()
            rows[place] = (process, rows[place][1], time)
    return tuple(rows)


def busy(model, resource, horizon):
    """Return the part of the units and of the time that is held, as a reduced fraction."""
    check_model(model)
    check_index(resource, model[0], "the resource")
    check_number(horizon, 1, LAST_TIME, "the horizon")
    held = sum([end - start for _, start, end in holds(model, resource, horizon)])
    return reduced(held, model[0][resource][1] * horizon)


def flow(model, store, horizon):
    """Return the items of all events "put" and those of all events "got" of a store, in order."""
    check_model(model)
    check_index(store, model[1], "the store")
    check_time(horizon, "the horizon")
    rows = _happened(model, ("put", "got"), store, horizon)
    return (
        tuple([item for _, _, word, _, item in rows if word == "put"]),
        tuple([item for _, _, word, _, item in rows if word == "got"]),
    )


def marks(model, number, horizon):
    """Return (time, process) for all events "mark" with this number."""
    check_model(model)
    check_number(number, 0, LAST_MARK, "the number")
    check_time(horizon, "the horizon")
    return tuple([(event[0], event[1]) for event in _happened(model, ("mark",), number, horizon)])
