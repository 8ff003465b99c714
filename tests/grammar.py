"""The texts of models read in another way than by the program: as a whole, and with each way to complete a beginning."""

import re

from eventsim.models import has_parts, is_model

NUMBER = "(0|[1-9][0-9]*)"
LINES = {
    "resource": f"resource (fifo|rank|preempt) {NUMBER}",
    "store": f"store {NUMBER}( {NUMBER})*",
    "gate": "gate (open|shut)",
    "process": "process",
    "end": "end",
    "forever": "forever",
    "repeat": f"repeat {NUMBER}",
    "put": f"put {NUMBER} {NUMBER}",
    "take": f"take {NUMBER} {NUMBER}",
}
LINES.update({word: f"{word} {NUMBER}" for word in "wait give get pass open shut rouse mark".split()})
# What may follow a beginning so that it becomes the text of some parts, if it can become one at all.
ENDINGS = [
    ["mark 0"] * marks + ["end"] * ends + ["process"] * processes
    for processes in range(7) for ends in range(4) for marks in range(2)
]


def words(line):
    """The parts of a line, or None if no text has such a line."""
    kind = line.partition(" ")[0]
    if kind not in LINES or not re.fullmatch(LINES[kind], line):
        return None
    return [int(part) if part.isdigit() else part for part in line.split(" ")]


def script(rows, body=False):
    """The script with which the rows begin, as they are used up."""
    found = []
    while rows and rows[0][0] not in ("end", "process", "resource", "store", "gate"):
        row = rows.pop(0)
        if row[0] in ("repeat", "forever"):
            row.append(script(rows, True))
        found.append(tuple(row))
    if body:
        if not rows or rows.pop(0)[0] != "end":
            raise ValueError
    return tuple(found)


def parts(lines):
    """What has the parts of a model and these lines, or None."""
    rows = [words(line) for line in lines]
    if None in rows:
        return None
    model = ([], [], [], [])
    while rows and rows[0][0] == "resource":
        model[0].append(tuple(rows.pop(0)[1:]))
    while rows and rows[0][0] == "store":
        row = rows.pop(0)
        model[1].append((row[1], tuple(row[2:])))
    while rows and rows[0][0] == "gate":
        model[2].append(rows.pop(0)[1])
    while rows and rows[0][0] == "process":
        rows.pop(0)
        try:
            model[3].append(script(rows))
        except ValueError:
            return None
    thing = tuple(tuple(part) for part in model)
    return thing if not rows and has_parts(thing) else None


def is_beginning(lines):
    return any(parts(lines + ending) is not None for ending in ENDINGS)


def wrong_line(text):
    """The line that a ParseError names for a string, or None if it is the text of a model."""
    lines = text.split("\n")
    for number in range(len(lines)):
        if not is_beginning(lines[:number + 1]):
            return number
    thing = parts(lines)
    if thing is None:
        return len(lines)
    return None if is_model(thing) else len(lines) - 1
