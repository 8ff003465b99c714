"""Texts: models and events in writing."""

from eventsim.drafts import Draft
from eventsim.errors import ParseError
from eventsim.limits import LAST_PROCESS, MOST_DIGITS
from eventsim.models import KINDS, check_model, has_parts, meets_conditions
from eventsim.numerals import join_parts, read_number

# For each word of the events, how many numbers stand behind it.
EVENTS = {
    "sleep": 1,
    "wake": 0,
    "hold": 1,
    "lose": 1,
    "ask": 1,
    "give": 1,
    "put": 2,
    "got": 2,
    "full": 1,
    "empty": 1,
    "pass": 1,
    "closed": 1,
    "open": 1,
    "shut": 1,
    "rouse": 1,
    "mark": 1,
    "end": 0,
}


def format_model(model):
    """Return the text of a model."""
    check_model(model)
    resources, stores, gates, scripts = model
    lines = [join_parts(("resource", *resource)) for resource in resources]
    lines.extend([join_parts(("store", capacity, *kept)) for capacity, kept in stores])
    lines.extend([join_parts(("gate", word)) for word in gates])
    for script in scripts:
        lines.append("process")
        lines.extend(_script_lines(script))
    return "\n".join(lines)


def _script_lines(script):
    """Return the list of the lines of a script or a body."""
    lines = []
    for instruction in script:
        if instruction[0] in KINDS:
            lines.append(join_parts(instruction))
        else:
            lines.append(join_parts(instruction[:-1]))
            lines.extend(_script_lines(instruction[-1]))
            lines.append("end")
    return lines


def parse_model(text):
    """Return the model with a text."""
    if not isinstance(text, str):
        raise ParseError(-1)
    lines = text.split("\n")
    draft = Draft()
    for number, line in enumerate(lines):
        if not draft.read_line(line):
            raise ParseError(number)
    model = draft.parts()
    # This also finds processes that are roused and do not exist.
    if not has_parts(model):
        raise ParseError(len(lines))
    if not meets_conditions(model):
        raise ParseError(len(lines) - 1)
    return model


def format_event(event):
    """Return the text of an event."""
    return join_parts(event)


def parse_event(text):
    """Return the event with a text."""
    if not isinstance(text, str):
        raise ParseError(-1)
    words = text.split(" ")
    if len(words) < 3 or words[2] not in EVENTS or len(words) != 3 + EVENTS[words[2]]:
        raise ParseError(0)
    numbers = [read_number(word, MOST_DIGITS) for word in words[:2] + words[3:]]
    if None in numbers or numbers[1] > LAST_PROCESS:
        raise ParseError(0)
    return (*numbers[:2], words[2], *numbers[2:])
