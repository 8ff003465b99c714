"""Points [3], [4] and the interface: calls of texts, simulations, interpreters and lines, and what does not change."""

import ast
import copy
import inspect
import itertools
import pathlib
import unittest

from eventsim import commands, queues, simulation, texts
from eventsim.commands import Interpreter
from eventsim.errors import CommandError, EventsimError, LimitError, ModelError, NumberError, ParseError, UndoError
from eventsim.errors import HoldError, SituationError
from eventsim.simulation import Simulation, peek
from eventsim.texts import format_event, format_model, parse_event, parse_model
from tests.samples import BELT, CROSS, NOT_INTEGERS, RICH, SHOP
from tests.test_simulation import FULL, state

DEFINED = (
    (texts, ("format_model", "parse_model", "format_event", "parse_event")),
    (simulation, ("Simulation", "peek")),
    (commands, ("Interpreter",)),
    (queues, ("Line", "RankLine", "PreemptLine")),
)


class Interface(unittest.TestCase):

    def test_defined_in_their_files(self):
        for module, names in DEFINED:
            tree = ast.parse(pathlib.Path(module.__file__).read_text())
            found = [node.name for node in tree.body if isinstance(node, (ast.FunctionDef, ast.ClassDef))]
            for name in names:
                self.assertIn(name, found)

    def test_arguments(self):
        for function, names in ((format_model, ("model",)), (parse_model, ("text",)), (format_event, ("event",)),
                                (parse_event, ("text",)), (peek, ("simulation", "time")), (Interpreter, ()),
                                (Simulation, ("model", "horizon")), (Simulation.read, ("text",))):
            self.assertEqual(tuple(inspect.signature(function).parameters), names)

    def test_errors_are_of_one_family(self):
        for error in (CommandError, HoldError, LimitError, ModelError, NumberError, ParseError, SituationError, UndoError):
            self.assertEqual(error.__bases__, (EventsimError,))


class TheSameAgain(unittest.TestCase):

    def test_functions(self):
        for model in (SHOP, BELT, CROSS, RICH, FULL):
            text = format_model(model)
            self.assertEqual(format_model(model), text)
            self.assertEqual(parse_model(text), parse_model(text))
            self.assertEqual(Simulation.read(text), Simulation.read(text))
        self.assertEqual(parse_event("3 1 hold 0"), parse_event("3 1 hold 0"))

    def test_questions_to_a_simulation(self):
        for model in (SHOP, BELT, CROSS, RICH, FULL):
            one = Simulation(model)
            while one.step():
                first = state(one)
                peek(one, 60 + one.now % 40)
                one.copy().advance(100)
                with one.trial():
                    one.step()
                one.events()
                self.assertEqual(state(one), first)
                if one.now > 30:
                    break

    def test_simulations_of_one_model_are_independent(self):
        one, other = Simulation(FULL), Simulation(FULL)
        before = state(other)
        one.advance(20)
        one.horizon = 50
        self.assertEqual(state(other), before)

    def test_equal_simulations_are_not_unequal(self):
        for one, other in itertools.product((Simulation(SHOP), Simulation(BELT), queues.Line(1), None, 0), repeat=2):
            self.assertEqual(one != other, not one == other)


class Exceptions(unittest.TestCase):

    def raised(self, call, *values, **named):
        with self.assertRaises(EventsimError) as caught:
            call(*values, **named)
        return caught.exception.__class__

    def test_the_first_wrong_argument_decides(self):
        for model in ((), None, SHOP[:3]):
            for horizon in (0, -1, 201, None, True):
                self.assertIs(self.raised(Simulation, model, horizon=horizon), ModelError)
        self.assertIs(self.raised(Simulation, SHOP, horizon=-1), NumberError)

    def test_nothing_changes(self):
        one = Simulation(FULL, horizon=40)
        one.advance(5)
        before = state(one)
        for value in (-1, 500, *NOT_INTEGERS):
            for call in (one.advance, one.status, one.left, one.queue, one.items, one.is_open, one.set_horizon):
                self.assertIs(self.raised(call, value), NumberError)
            self.assertIs(self.raised(peek, one, value), NumberError)
            self.assertIs(self.raised(setattr, one, "horizon", value), NumberError)
        self.assertEqual(state(one), before)

    def test_arguments_are_not_modified(self):
        for thing in (["process"], {"process": ["wait 1"]}, [], {}, [["now"]], ["load", "process"]):
            before = copy.deepcopy(thing)
            self.assertIs(self.raised(parse_model, thing), ParseError)
            self.assertIs(self.raised(parse_event, thing), ParseError)
            self.assertIs(self.raised(Simulation.read, thing), ParseError)
            self.assertIs(self.raised(Interpreter().execute, thing), CommandError)
            self.assertIs(self.raised(Simulation, thing), ModelError)
            self.assertIs(self.raised(format_model, thing), ModelError)
            self.assertEqual(thing, before)


class LinesAfterCopies(unittest.TestCase):
    """A line that a simulation has returned is a line like any other."""

    def test_all_methods(self):
        one = Simulation(FULL)
        one.advance(2)
        line = one.queue(0)
        self.assertEqual((line.free, line.length, repr(line)), (0, 2, "PreemptLine(1 units, 2 waiting)"))
        self.assertEqual(line.preempt(4, 0, (0, 1)), None)
        self.assertEqual(line.request(4, 9), False)
        self.assertEqual(line.waiting(), ((0, 5), (1, 0), (9, 4)))
        self.assertEqual(line.release(1), 5)
        self.assertEqual(line.release(5), 0)
        self.assertEqual(line.preempt(2, 0, (0,)), 0)
        self.assertEqual(line.holders(), ((0, 2),))
        with self.assertRaises(HoldError):
            line.release(0)
        with self.assertRaises(NumberError):
            line.request(6, 0)

    def test_numbers_go_on(self):
        one = Simulation(FULL)
        one.advance(0)
        line = one.queue(1)
        self.assertEqual((line.request(1, 0), line.request(1, 0), line.length), (True, False, 1))
        self.assertEqual(line.holders(), ((1, 0), (0, 1)))
        self.assertEqual(line.release(1), 1)
        self.assertEqual(line.holders(), ((1, 0), (0, 1)))


if __name__ == "__main__":
    unittest.main()
