"""Models: what they consist of, and how others are made from them."""

from eventsim.checks import check_number, is_between
from eventsim.errors import LimitError, ModelError
from eventsim.limits import LAST_ITEM, LAST_MARK, LAST_RANK
from eventsim.limits import MOST_CAPACITY, MOST_DEPTH, MOST_FACTOR, MOST_GATES, MOST_RESOURCES
from eventsim.limits import MOST_SCRIPTS, MOST_STORES, MOST_TIMES
from eventsim.queues import Line

DISCIPLINES = ("fifo", "rank", "preempt")
GATE_WORDS = ("open", "shut")

# For each instruction without a body, what the numbers behind its word stand for.
KINDS = {
    "wait": ("time",),
    "take": ("resource", "rank"),
    "give": ("resource",),
    "put": ("store", "item"),
    "get": ("store",),
    "pass": ("gate",),
    "open": ("gate",),
    "shut": ("gate",),
    "rouse": ("process",),
    "mark": ("mark",),
}


def is_model(thing):
    """Return whether a value is a model."""
    return has_parts(thing) and meets_conditions(thing)


def check_model(model):
    """Raise ModelError unless a value is a model."""
    if not is_model(model):
        raise ModelError("this is no model")


def has_parts(thing):
    """Return whether a value has the parts of a model; balance and progress do not matter."""
    if not _is_tuple(thing, 4, 4) or not all([isinstance(part, tuple) for part in thing]):
        return False
    resources, stores, gates, scripts = thing
    return (
        len(resources) <= MOST_RESOURCES
        and len(stores) <= MOST_STORES
        and len(gates) <= MOST_GATES
        and 1 <= len(scripts) <= MOST_SCRIPTS
        and all([is_resource(part) for part in resources])
        and all([is_store(part) for part in stores])
        and all([gate in GATE_WORDS for gate in gates])
        and _are_scripts(scripts, last_numbers(len(resources), len(stores), len(gates), len(scripts)))
    )


def meets_conditions(model):
    """Return whether the scripts of what has the parts of a model meet balance and progress."""
    resources = len(model[0])
    return all([_is_balanced(script, resources) and _makes_progress(script) for script in model[3]])


def _is_tuple(thing, least, most):
    """Return whether a value is a tuple with as many parts; None as most means that there is no upper end."""
    return isinstance(thing, tuple) and is_between(len(thing), least, most)


def is_resource(thing):
    """Return whether a value is a resource of a model."""
    return _is_tuple(thing, 2, 2) and thing[0] in DISCIPLINES and is_between(thing[1], 1, Line.MOST_UNITS)


def is_store(thing):
    """Return whether a value is a store of a model."""
    if not _is_tuple(thing, 2, 2) or not is_between(thing[0], 1, MOST_CAPACITY):
        return False
    capacity, items = thing
    return _is_tuple(items, 0, capacity) and all([is_between(item, 0, LAST_ITEM) for item in items])


def last_numbers(resources, stores, gates, scripts):
    """Return the greatest number of each kind that an instruction may have, where there are so many of each part."""
    return {
        "time": None,
        "resource": resources - 1,
        "rank": LAST_RANK,
        "store": stores - 1,
        "item": LAST_ITEM,
        "gate": gates - 1,
        "process": scripts - 1,
        "mark": LAST_MARK,
    }


def _are_scripts(scripts, last):
    return all([_is_script(script, last) for script in scripts])


def _is_script(thing, last):
    """Return whether a value is the script of a process."""
    if not isinstance(thing, tuple):
        return False
    if thing and _is_forever(thing[-1], last):
        return _are_instructions(thing[:-1], last, 1)
    return _are_instructions(thing, last, 1)


def _is_forever(thing, last):
    return _is_tuple(thing, 2, 2) and thing[0] == "forever" and _is_body(thing[1], last, 2)


def _is_body(thing, last, depth):
    return _is_tuple(thing, 1, None) and _are_instructions(thing, last, depth)


def _are_instructions(things, last, depth):
    """Return whether all values are instructions other than forever; one with a body is so deep."""
    return all([_is_instruction(thing, last, depth) for thing in things])


def _is_instruction(thing, last, depth):
    if not _is_tuple(thing, 1, None) or not isinstance(thing[0], str):
        return False
    if thing[0] == "repeat":
        return _is_repeat(thing, last, depth)
    return is_plain(thing[0], thing[1:], last)


def is_plain(word, numbers, last):
    """Return whether a word and the numbers behind it are an instruction without a body."""
    if word not in KINDS:
        return False
    kinds = KINDS[word]
    return len(numbers) == len(kinds) and all(
        [is_between(number, 0, last[kind]) for number, kind in zip(numbers, kinds)]
    )


def _is_repeat(thing, last, depth):
    # The depth comes first: it keeps the recursion through the bodies short.
    return (
        depth <= MOST_DEPTH
        and _is_tuple(thing, 3, 3)
        and is_between(thing[1], 0, MOST_TIMES)
        and _is_body(thing[2], last, depth + 1)
    )


def _is_balanced(script, resources):
    """Return whether a script gives the units of each resource that it takes, and no others."""
    return all([_units_after(script, resource, 0) == 0 for resource in range(resources)])


def _units_after(script, resource, units):
    """Return the count of units of a resource behind a script, or -1 if balance is broken in it."""
    # A forever stands last, so that the count around it is the one at the end of the script, which must be 0.
    for instruction in script:
        word = instruction[0]
        if word == "take" and instruction[1] == resource:
            units += 1
        if word == "give" and instruction[1] == resource:
            units -= 1
        if word in ("repeat", "forever") and _units_after(instruction[-1], resource, units) != units:
            return -1
        if units < 0:
            return -1
    return units


def _makes_progress(script):
    """Return whether the body of the forever of a script, if there is one, waits."""
    if not script or script[-1][0] != "forever":
        return True
    return _time_of(script[-1][1]) >= 1


def _time_of(script):
    """Return the sum of the waits in a script without forever."""
    time = 0
    for instruction in script:
        if instruction[0] == "wait":
            time += instruction[1]
        if instruction[0] == "repeat":
            time += instruction[1] * _time_of(instruction[2])
    return time


def beside(*models):
    """Return the model in which the given models are placed beside one another."""
    if not models:
        raise ModelError("there is no model")
    for model in models:
        check_model(model)
    _check_room(models)
    resources, stores, gates, scripts = (), (), (), ()
    for model in models:
        shifts = {
            "resource": len(resources),
            "store": len(stores),
            "gate": len(gates),
            "process": len(scripts),
        }
        resources += model[0]
        stores += model[1]
        gates += model[2]
        scripts += tuple([_shifted(script, shifts) for script in model[3]])
    return resources, stores, gates, scripts


def _check_room(models):
    """Raise LimitError if models do not fit beside one another."""
    if sum([len(model[3]) for model in models]) > MOST_SCRIPTS:
        raise LimitError(MOST_SCRIPTS)
    if sum([len(model[0]) for model in models]) > MOST_RESOURCES:
        raise LimitError(MOST_RESOURCES)
    if sum([len(model[1]) for model in models]) > MOST_STORES:
        raise LimitError(MOST_STORES)
    if sum([len(model[2]) for model in models]) > MOST_GATES:
        raise LimitError(MOST_GATES)


def _shifted(script, shifts):
    """Return a script with the numbers of each kind made greater by the shift of this kind."""
    rows = []
    for instruction in script:
        word = instruction[0]
        if word in KINDS:
            numbers = [number + shifts.get(kind, 0) for number, kind in zip(instruction[1:], KINDS[word])]
            rows.append((word, *numbers))
        else:
            rows.append((*instruction[:-1], _shifted(instruction[-1], shifts)))
    return tuple(rows)


def scaled(model, factor):
    """Return the model with all waits multiplied by a factor."""
    check_model(model)
    check_number(factor, 1, MOST_FACTOR, "the factor")
    resources, stores, gates, scripts = model
    return resources, stores, gates, tuple([_scaled_script(script, factor) for script in scripts])


def _scaled_script(script, factor):
    rows = []
    for instruction in script:
        if instruction[0] == "wait":
            rows.append(("wait", instruction[1] * factor))
        elif instruction[0] in KINDS:
            rows.append(instruction)
        else:
            rows.append((*instruction[:-1], _scaled_script(instruction[-1], factor)))
    return tuple(rows)


def unrolled(model):
    """Return the model in which each repeat is replaced by as many copies of its body."""
    check_model(model)
    resources, stores, gates, scripts = model
    return resources, stores, gates, tuple([_unrolled_script(script) for script in scripts])


def _unrolled_script(script):
    rows = []
    for instruction in script:
        if instruction[0] == "repeat":
            rows.extend(_unrolled_script(instruction[2]) * instruction[1])
        elif instruction[0] == "forever":
            rows.append(("forever", _unrolled_script(instruction[1])))
        else:
            rows.append(instruction)
    return tuple(rows)
