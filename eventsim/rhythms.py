"""Rhythms: how a run ends, comes to a halt or repeats."""

from eventsim.checks import check_index, is_between, is_same
from eventsim.limits import LAST_TIME
from eventsim.models import check_model
from eventsim.ratios import reduced
from eventsim.runs import Run
from eventsim.situations import snapshot


class Course:
    """The situations of a model after the times 0 to 200, and how often the body of each forever has begun by then."""

    def __init__(self, model):
        run = Run(model)
        self.views = []
        self._rounds = []
        for time in range(LAST_TIME + 1):
            run.advance(time)
            self.views.append(snapshot(run))
            self._rounds.append([rest.rounds for rest in run.rests])

    def ending(self, time):
        """Return what has become of the run if the agenda is empty after a time; otherwise None."""
        view = self.views[time]
        if view[4]:
            return None
        unfinished = [process for process, (status, _) in enumerate(view[0]) if status != ("finished",)]
        if unfinished:
            return "stuck", time, tuple(unfinished)
        return "ends", time

    def cycle(self, start, period):
        """Return the cycle with this start and period, or None if both situations differ or nothing happens."""
        end = start + period
        if not self.views[start][4] or self.views[start] != self.views[end]:
            return None
        rounds = [late - early for early, late in zip(self._rounds[start], self._rounds[end])]
        return "cycle", start, period, tuple(rounds)


def rhythm(model):
    """Return what becomes of the run: it ends, is stuck, is a cycle, or is open."""
    check_model(model)
    course = Course(model)
    for time in range(LAST_TIME + 1):
        found = course.ending(time)
        if found is not None:
            return found
    for start in range(LAST_TIME):
        for period in range(1, LAST_TIME - start + 1):
            found = course.cycle(start, period)
            if found is not None:
                return found
    return ("open",)


def is_rhythm(model, thing):
    """Return whether a value is a certificate of what becomes of the run."""
    check_model(model)
    if not isinstance(thing, tuple) or len(thing) < 2 or not is_between(thing[1], 0, LAST_TIME):
        return False
    course = Course(model)
    time = thing[1]
    if thing[0] != "cycle":
        return is_same(thing, course.ending(time))
    if len(thing) < 3 or not is_between(thing[2], 1, LAST_TIME - time):
        return False
    return is_same(thing, course.cycle(time, thing[2]))


def pace(model, process):
    """Return how many rounds a process begins in each unit of time of the cycle, as a reduced fraction, or None."""
    check_model(model)
    check_index(process, model[3], "the process")
    found = rhythm(model)
    if found[0] != "cycle":
        return None
    return reduced(found[3][process], found[2])
