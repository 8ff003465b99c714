"""Commands: a simulation that is driven by lines of text."""

from eventsim.errors import CommandError, UndoError
from eventsim.limits import LAST_TIME, MOST_DIGITS
from eventsim.numerals import join_parts, read_number
from eventsim.rhythms import rhythm
from eventsim.simulation import Simulation
from eventsim.stuck import largest_stuck
from eventsim.texts import format_event, parse_model

FIRST_MODEL = ((), (), (), ((),))
DONE = "ok"
NOTHING = "-"


def _report(happened):
    """Return the text of events."""
    return "\n".join([format_event(event) for event in happened]) or NOTHING


def _listed(numbers):
    """Return the text of numbers."""
    return join_parts(numbers) or NOTHING


def _step(interpreter):
    after = interpreter.simulation.copy()
    happened = after.step()
    interpreter.change_to(after)
    return _report(happened)


def _run_to(interpreter, time):
    after = interpreter.simulation.copy()
    happened = after.advance(time)
    interpreter.change_to(after)
    return _report(happened)


def _undo(interpreter):
    interpreter.change_back()
    return DONE


def _now(interpreter):
    return str(interpreter.simulation.now)


def _status(interpreter, process):
    return join_parts(interpreter.simulation.status(process))


def _queue(interpreter, resource):
    return _listed([process for _, process in interpreter.simulation.queue(resource).waiting()])


def _stock(interpreter, store):
    return _listed(interpreter.simulation.stock(store))


def _gate(interpreter, gate):
    return "open" if interpreter.simulation.is_open(gate) else "shut"


def _stuck(interpreter):
    return _listed(largest_stuck(interpreter.simulation.model, interpreter.simulation.now))


def _rhythm(interpreter):
    return rhythm(interpreter.simulation.model)[0]


# For each line that is a single word, and for each word that a number follows, the function that answers it.
PLAIN = {"step": _step, "undo": _undo, "now": _now, "stuck": _stuck, "rhythm": _rhythm}
NUMBERED = {"run": _run_to, "status": _status, "queue": _queue, "items": _stock, "gate": _gate}


class Interpreter:
    """A simulation, and what it was before each operation that can be undone."""

    def __init__(self):
        self.simulation = Simulation(FIRST_MODEL, horizon=LAST_TIME)
        # The latest one is the last.
        self._earlier = []

    def __len__(self):
        return len(self._earlier)

    def execute(self, line):
        """Execute a line and return the answer."""
        if not isinstance(line, str):
            raise CommandError("a command is a string")
        word, _, rest = line.partition(" ")
        if word == "load" and rest:
            return self._load(rest)
        if line in PLAIN:
            answer = PLAIN[line]
            return answer(self)
        number = read_number(rest, MOST_DIGITS)
        if word not in NUMBERED or number is None:
            raise CommandError("there is no such command")
        answer_about = NUMBERED[word]
        return answer_about(self, number)

    def _load(self, text):
        self.change_to(Simulation(parse_model(text), horizon=LAST_TIME))
        return DONE

    def change_to(self, simulation):
        """Go on with another simulation; this can be undone."""
        self._earlier.append(self.simulation)
        self.simulation = simulation

    def change_back(self):
        """Undo the last change that has not been undone."""
        if not self._earlier:
            raise UndoError("there is nothing to undo")
        self.simulation = self._earlier.pop()
