"""The effects of the instructions.

Each function takes the run, the process that acts, and the numbers of the instruction. It returns whether the
process continues at once.
"""

from eventsim.queues import PreemptLine


def _wait(run, process, time):
    if time == 0:
        return True
    run.note(process, "sleep", time)
    run.sleep(process, time)
    return False


def _take(run, process, resource, rank):
    line = run.lines[resource]
    if isinstance(line, PreemptLine):
        victim = line.preempt(process, rank, run.sleepers())
        if victim is not None:
            run.note(victim, "lose", resource)
            run.suspend(victim, resource)
            run.note(process, "hold", resource)
            return True
    if line.request(process, rank):
        run.note(process, "hold", resource)
        return True
    run.note(process, "ask", resource)
    run.halt(process, ("wants", resource))
    return False


def _give(run, process, resource):
    run.note(process, "give", resource)
    follower = run.lines[resource].release(process)
    if follower is not None:
        run.note(follower, "hold", resource)
        run.serve(follower)
    return True


def _put(run, process, store, item):
    place = run.stores[store]
    if place.getters:
        run.note(process, "put", store, item)
        getter = place.getters.pop(0)
        run.note(getter, "got", store, item)
        run.schedule(getter)
        return True
    if place.is_full():
        run.note(process, "full", store)
        place.putters.append((process, item))
        run.halt(process, ("full", store, item))
        return False
    place.kept.append(item)
    run.note(process, "put", store, item)
    return True


def _get(run, process, store):
    place = run.stores[store]
    if not place.kept:
        run.note(process, "empty", store)
        place.getters.append(process)
        run.halt(process, ("empty", store))
        return False
    run.note(process, "got", store, place.kept.pop(0))
    if place.putters:
        putter, item = place.putters.pop(0)
        place.kept.append(item)
        run.note(putter, "put", store, item)
        run.schedule(putter)
    return True


def _pass_gate(run, process, gate):
    place = run.gates[gate]
    if place.word == "open":
        run.note(process, "pass", gate)
        return True
    run.note(process, "closed", gate)
    place.passers.append(process)
    run.halt(process, ("closed", gate))
    return False


def _open_gate(run, process, gate):
    place = run.gates[gate]
    run.note(process, "open", gate)
    place.word = "open"
    passers = place.passers
    place.passers = []
    for passer in passers:
        run.note(passer, "pass", gate)
        run.schedule(passer)
    return True


def _shut_gate(run, process, gate):
    place = run.gates[gate]
    run.note(process, "shut", gate)
    place.word = "shut"
    return True


def _rouse(run, process, sleeper):
    if run.can_be_roused(sleeper):
        run.note(process, "rouse", sleeper)
        run.agenda.drop(sleeper)
        run.schedule(sleeper)
    return True


def _mark(run, process, number):
    run.note(process, "mark", number)
    return True


EFFECTS = {
    "wait": _wait,
    "take": _take,
    "give": _give,
    "put": _put,
    "get": _get,
    "pass": _pass_gate,
    "open": _open_gate,
    "shut": _shut_gate,
    "rouse": _rouse,
    "mark": _mark,
}
