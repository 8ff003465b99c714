"""Drafts: models whose texts are read line by line."""

from eventsim.checks import is_between
from eventsim.limits import MOST_DEPTH, MOST_DIGITS_IN_MODELS, MOST_GATES, MOST_RESOURCES
from eventsim.limits import MOST_SCRIPTS, MOST_STORES, MOST_TIMES
from eventsim.models import GATE_WORDS, is_plain, is_resource, is_store, last_numbers
from eventsim.numerals import read_number


class Draft:
    """The parts of a model, as far as they have been read.

    A method that reads returns whether the lines up to this one can be the first ones of the text of some parts; if
    not, the draft is left as it was.
    """

    def __init__(self):
        self._resources = []
        self._stores = []
        self._gates = []
        # For each process a list of its instructions.
        self._scripts = []
        # The bodies that have no end so far, the innermost one last: pairs (beginning of the instruction, its body).
        self._bodies = []

    def parts(self):
        """Return what has been read in the form of a model, or None if a body has no end."""
        if self._bodies:
            return None
        scripts = tuple([tuple(script) for script in self._scripts])
        return tuple(self._resources), tuple(self._stores), tuple(self._gates), scripts

    def read_line(self, line):
        """Read one more line."""
        word, *words = line.split(" ")
        if word == "resource":
            return self._read_resource(words)
        if word == "store":
            return self._read_store(words)
        if word == "gate":
            return self._read_gate(words)
        if word == "process":
            return self._read_process(words)
        return bool(self._scripts) and self._read_instruction(word, words)

    def _read_resource(self, words):
        if self._stores or self._gates or self._scripts or len(self._resources) == MOST_RESOURCES:
            return False
        resource = (*words[:1], *_numbers(words[1:]))
        if not is_resource(resource):
            return False
        self._resources.append(resource)
        return True

    def _read_store(self, words):
        if self._gates or self._scripts or len(self._stores) == MOST_STORES:
            return False
        numbers = _numbers(words)
        store = (*numbers[:1], numbers[1:])
        if not is_store(store):
            return False
        self._stores.append(store)
        return True

    def _read_gate(self, words):
        if self._scripts or len(self._gates) == MOST_GATES:
            return False
        if len(words) != 1 or words[0] not in GATE_WORDS:
            return False
        self._gates.append(words[0])
        return True

    def _read_process(self, words):
        if words or self._bodies or len(self._scripts) == MOST_SCRIPTS:
            return False
        self._scripts.append([])
        return True

    def _read_instruction(self, word, words):
        numbers = _numbers(words)
        rows = self._rows()
        if word == "end":
            return not numbers and self._end_body()
        if rows and rows[-1][0] == "forever":
            return False
        if word == "forever":
            return not numbers and not self._bodies and self._begin_body((word,))
        if word == "repeat":
            return len(numbers) == 1 and is_between(numbers[0], 0, MOST_TIMES) and self._begin_body((word, *numbers))
        # A process that is roused may come later, as long as there may be one with this number.
        last = last_numbers(len(self._resources), len(self._stores), len(self._gates), MOST_SCRIPTS)
        if not is_plain(word, numbers, last):
            return False
        rows.append((word, *numbers))
        return True

    def _rows(self):
        """Return the list to which the next instruction belongs."""
        return self._bodies[-1][1] if self._bodies else self._scripts[-1]

    def _begin_body(self, beginning):
        if len(self._bodies) == MOST_DEPTH:
            return False
        self._bodies.append((beginning, []))
        return True

    def _end_body(self):
        if not self._bodies or not self._bodies[-1][1]:
            return False
        beginning, body = self._bodies.pop()
        self._rows().append((*beginning, tuple(body)))
        return True


def _numbers(words):
    """Return the tuple of the numbers that are written in words, with None for each word that is no number."""
    return tuple([read_number(word, MOST_DIGITS_IN_MODELS) for word in words])
