"""Points [2], [3], [4] and the interface: how the functions that run a model are called."""

import ast
import copy
import inspect
import itertools
import pathlib
import unittest

from eventsim import measures, rhythms, stuck, traces
from eventsim.errors import ModelError, NumberError, SituationError
from tests.samples import IDLE, made

MODEL = made(
    "take 0 9, wait 3, give 0", "wait 1, take 0 0, put 0 7, wait 9, give 0", "get 0, mark 5, get 0",
    resources=(("preempt", 1),), stores=((1, ()),),
)
VIEW = traces.situation(MODEL, 2)
# For each parameter: a right value, and wrong ones with the error that they raise.
WRONG = {
    "model": (((), None, MODEL[:3], list(MODEL)), ModelError),
    "one": (((), 5), ModelError),
    "other": (((), 5), ModelError),
    "situation": ((None, (), list(VIEW), traces.situation(IDLE, 0)), SituationError),
    "process": ((-1, 3, True, "0", None), NumberError),
    "resource": ((-1, 1, False, (0,)), NumberError),
    "store": ((-1, 1, False, [0]), NumberError),
    "number": ((-1, 1000, True, {}), NumberError),
    "time": ((-1, 201, True, None), NumberError),
    "horizon": ((-1, 201, True, ""), NumberError),
    "length": ((-1, 201, True, ()), NumberError),
}
RIGHT = {
    "model": MODEL, "one": MODEL, "other": IDLE, "situation": VIEW, "thing": (2,), "process": 1, "resource": 0,
    "store": 0, "number": 5, "time": 2, "horizon": 20, "length": 30,
}
INTERFACE = (
    (traces, "trace", ("model", "horizon")),
    (traces, "own_trace", ("model", "process", "horizon")),
    (traces, "situation", ("model", "time")),
    (traces, "moment_of", ("model", "thing")),
    (traces, "resume", ("model", "situation", "length")),
    (traces, "first_difference", ("one", "other", "horizon")),
    (measures, "waits", ("model", "resource", "horizon")),
    (measures, "lengths", ("model", "resource", "horizon")),
    (measures, "total_wait", ("model", "resource", "horizon")),
    (measures, "area", ("model", "resource", "horizon")),
    (measures, "holds", ("model", "resource", "horizon")),
    (measures, "busy", ("model", "resource", "horizon")),
    (measures, "flow", ("model", "store", "horizon")),
    (measures, "marks", ("model", "number", "horizon")),
    (stuck, "providers", ("model", "time", "process")),
    (stuck, "is_stuck", ("model", "time", "thing")),
    (stuck, "largest_stuck", ("model", "time")),
    (stuck, "first_stuck", ("model", "horizon")),
    (rhythms, "rhythm", ("model",)),
    (rhythms, "is_rhythm", ("model", "thing")),
    (rhythms, "pace", ("model", "process")),
)


class Calls(unittest.TestCase):

    def test_names_and_arguments(self):
        for module, name, names in INTERFACE:
            function = getattr(module, name)
            self.assertEqual(tuple(inspect.signature(function).parameters), names)
            self.assertEqual(function.__module__, module.__name__)

    def test_defined_in_their_files(self):
        for module in (traces, measures, stuck, rhythms):
            tree = ast.parse(pathlib.Path(module.__file__).read_text())
            names = [node.name for node in tree.body if isinstance(node, ast.FunctionDef)]
            for other, name, _ in INTERFACE:
                if other is module:
                    self.assertIn(name, names)

    def test_by_position_by_name_and_again(self):
        for module, name, names in INTERFACE:
            function = getattr(module, name)
            values = {part: RIGHT[part] for part in names}
            first = function(*values.values())
            self.assertEqual(function(**values), first, name)
            self.assertEqual(function(**dict(reversed(values.items()))), first, name)
            self.assertEqual(function(*values.values()), first, name)

    def test_calls_do_not_disturb_one_another(self):
        results = [getattr(module, name)(*[RIGHT[part] for part in names]) for module, name, names in INTERFACE]
        for (module, name, names), result in reversed(list(zip(INTERFACE, results))):
            self.assertEqual(getattr(module, name)(*[RIGHT[part] for part in names]), result, name)

    def test_any_value_is_not_modified(self):
        for thing in ([0, 1], [], {"a": [1]}, {}, ([1], {2: (3,)}), [VIEW], list(VIEW), (list(VIEW[0]), *VIEW[1:])):
            before = copy.deepcopy(thing)
            self.assertIsNone(traces.moment_of(MODEL, thing))
            self.assertIs(stuck.is_stuck(MODEL, 2, thing), False)
            self.assertIs(rhythms.is_rhythm(MODEL, thing), False)
            with self.assertRaises(SituationError):
                traces.resume(MODEL, thing, 5)
            self.assertEqual(thing, before)


class Exceptions(unittest.TestCase):

    def raised(self, function, values):
        try:
            function(**values)
        except ValueError as error:
            return error.__class__
        return None

    def test_each_wrong_argument(self):
        for module, name, names in INTERFACE:
            for part in names:
                for value in WRONG[part][0] if part in WRONG else ():
                    values = {other: RIGHT[other] for other in names}
                    values[part] = value
                    self.assertIs(self.raised(getattr(module, name), values), WRONG[part][1], (name, part, value))

    def test_the_first_wrong_argument_decides(self):
        for module, name, names in INTERFACE:
            parts = [part for part in names if part in WRONG]
            for one, other in itertools.combinations(parts, 2):
                for first, second in itertools.product(WRONG[one][0], WRONG[other][0]):
                    values = {part: RIGHT[part] for part in names}
                    values.update({one: first, other: second})
                    self.assertIs(self.raised(getattr(module, name), values), WRONG[one][1], (name, one, other))

    def test_nothing_changes(self):
        for module, name, names in INTERFACE:
            function = getattr(module, name)
            before = function(*[RIGHT[part] for part in names])
            for part in names:
                for value in WRONG[part][0] if part in WRONG else ():
                    self.raised(function, {**{other: RIGHT[other] for other in names}, part: value})
            self.assertEqual(function(*[RIGHT[part] for part in names]), before)


class Kinds(unittest.TestCase):

    def test_kinds_of_results(self):
        self.assert_kinds(tuple, ("trace", "own_trace", "situation", "resume", "first_difference", "waits", "lengths",
                                  "holds", "busy", "flow", "marks", "providers", "largest_stuck", "first_stuck", "rhythm"))
        self.assert_kinds(int, ("moment_of", "total_wait", "area"), thing=VIEW)
        self.assert_kinds(bool, ("is_stuck", "is_rhythm"))

    def assert_kinds(self, kind, wanted, **special):
        values = {**RIGHT, **special}
        for module, name, names in INTERFACE:
            if name in wanted:
                result = getattr(module, name)(*[values[part] for part in names])
                self.assertIs(result.__class__, kind, name)

    def test_results_consist_of_tuples_integers_strings_and_none(self):
        for module, name, names in INTERFACE:
            if name not in ("is_stuck", "is_rhythm"):
                self.check(getattr(module, name)(*[RIGHT[part] for part in names]), name)

    def check(self, thing, name):
        self.assertIn(thing.__class__, (tuple, int, str, None.__class__), name)
        if isinstance(thing, tuple):
            for part in thing:
                self.check(part, name)


if __name__ == "__main__":
    unittest.main()
