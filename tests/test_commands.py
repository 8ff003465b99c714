"""Point [100]: the interpreter."""

import inspect
import unittest

from eventsim.commands import Interpreter
from eventsim.errors import CommandError, EventsimError, NumberError, ParseError, UndoError
from eventsim.texts import format_event, format_model
from eventsim.traces import trace
from tests.samples import BELT, CROSS, NOT_STRINGS, SHOP, acts, made
from tests.test_rhythms import TURNS
from tests.test_simulation import FULL

LONG = "9" * 12
# Questions that change nothing and exist for each model.
QUESTIONS = ("now", "status 0", "stuck", "rhythm")


def texts(rows):
    return "\n".join([format_event(row) for row in rows])


def loaded(model, *lines):
    interpreter = Interpreter()
    interpreter.execute("load " + format_model(model))
    for line in lines:
        interpreter.execute(line)
    return interpreter


def state(interpreter):
    """All that an interpreter tells of itself."""
    rows = [len(interpreter), interpreter.execute("now"), interpreter.execute("stuck"), interpreter.execute("rhythm")]
    for word in ("status", "queue", "items", "gate"):
        for number in range(7):
            try:
                rows.append(interpreter.execute(f"{word} {number}"))
            except NumberError:
                rows.append(None)
    return rows


class Case(unittest.TestCase):

    def answers(self, interpreter, *pairs):
        for line, answer in pairs:
            found = interpreter.execute(line)
            self.assertEqual(found, answer, line)
            self.assertIs(found.__class__, str)

    def refused(self, interpreter, error, *values):
        before = state(interpreter)
        for value in values:
            with self.assertRaises(error, msg=value) as caught:
                interpreter.execute(value)
            self.assertIs(caught.exception.__class__, error, value)
        self.assertEqual(state(interpreter), before)


class Beginning(Case):

    def test_the_first_model(self):
        interpreter = Interpreter()
        self.assertEqual(len(interpreter), 0)
        self.answers(interpreter, ("now", "0"), ("status 0", "ready"), ("stuck", "-"), ("rhythm", "ends"))
        self.refused(interpreter, NumberError, "status 1", "queue 0", "items 0", "gate 0", "run 201")
        self.answers(interpreter, ("run 200", "0 0 end"), ("now", "200"), ("status 0", "finished"), ("step", "-"))

    def test_interface(self):
        self.assertEqual(tuple(inspect.signature(Interpreter).parameters), ())
        self.assertEqual(tuple(inspect.signature(Interpreter.execute).parameters), ("self", "line"))
        for name in ("execute", "__len__", "__init__"):
            self.assertIn(name, vars(Interpreter))
        self.assertEqual(Interpreter().execute(line="now"), "0")

    def test_interpreters_are_independent(self):
        one, other = Interpreter(), Interpreter()
        one.execute("load " + format_model(SHOP))
        one.execute("run 3")
        self.assertEqual((len(one), len(other), other.execute("now")), (2, 0, "0"))


class Commands(Case):

    def test_load(self):
        interpreter = Interpreter()
        self.answers(interpreter, ("load " + format_model(SHOP), "ok"), ("now", "0"), ("status 1", "ready"),
                     ("run 200", texts(trace(SHOP, 200))))
        self.answers(interpreter, ("load " + format_model(BELT), "ok"), ("now", "0"), ("items 0", "-"))
        self.answers(interpreter, ("load process", "ok"), ("status 0", "ready"))
        self.assertEqual(len(interpreter), 4)

    def test_load_wrong_texts(self):
        interpreter = loaded(SHOP, "run 1")
        for text, line in (
            ("x", 0), (" ", 0), ("  ", 0), (" process", 0), ("process ", 0), ("\n", 0), ("process\n", 1),
            ("process\nwait", 1), ("process\nrouse 1", 2), ("process\nrepeat 1", 2), ("process\nforever\nmark 1\nend", 3),
            ("process\nwait 1 ", 1), ("process\nwait  1", 1), ("load process", 0), ("resource fifo 1", 1), ("now", 0),
        ):
            before = state(interpreter)
            with self.assertRaises(ParseError) as caught:
                interpreter.execute("load " + text)
            self.assertIs(caught.exception.__class__, ParseError)
            self.assertEqual(caught.exception.line, line, text)
            self.assertEqual(state(interpreter), before)

    def test_load_without_a_text(self):
        self.refused(loaded(SHOP), CommandError, "load", "load ", "loadprocess", "load\nprocess", "load\n", " load process",
                     "Load process", "LOAD process", "\nload process")

    def test_step(self):
        interpreter = loaded(SHOP)
        self.answers(
            interpreter,
            ("step", "0 0 hold 0\n0 0 sleep 3"), ("now", "0"), ("step", "0 1 sleep 1"), ("step", "1 1 wake\n1 1 ask 0"),
            ("now", "1"), ("step", "3 0 wake\n3 0 give 0\n3 1 hold 0\n3 0 end"), ("now", "3"), ("status 1", "ready"),
            ("step", "3 1 sleep 2"), ("step", "5 1 wake\n5 1 give 0\n5 1 end"), ("step", "-"), ("step", "-"),
            ("now", "5"),
        )
        self.assertEqual(len(interpreter), 9)

    def test_step_up_to_200(self):
        interpreter = loaded(made("wait 100, wait 100, wait 1"))
        self.answers(interpreter, ("step", "0 0 sleep 100"), ("step", "100 0 wake\n100 0 sleep 100"),
                     ("step", "200 0 wake\n200 0 sleep 1"), ("step", "-"), ("now", "200"), ("status 0", "asleep 1"))
        interpreter = loaded(made("wait 201"), "step")
        self.answers(interpreter, ("step", "-"), ("now", "0"), ("run 200", "-"), ("now", "200"))

    def test_run(self):
        interpreter = loaded(SHOP)
        self.answers(interpreter, ("run 0", "0 0 hold 0\n0 0 sleep 3\n0 1 sleep 1"), ("run 0", "-"),
                     ("run 2", "1 1 wake\n1 1 ask 0"), ("now", "2"), ("run 2", "-"),
                     ("run 200", texts(trace(SHOP, 200)[5:])), ("run 200", "-"), ("now", "200"))
        self.assertEqual(len(interpreter), 7)

    def test_run_to_a_time_that_is_past_or_beyond_200(self):
        interpreter = loaded(SHOP, "run 3")
        self.refused(interpreter, NumberError, "run 0", "run 2", "run 201", "run 202", "run 1000", f"run {LONG}")
        self.answers(interpreter, ("run 3", "-"), ("run 4", "-"))
        self.refused(interpreter, NumberError, "run 3")

    def test_now(self):
        interpreter = loaded(SHOP)
        for time in (0, 1, 17, 200):
            interpreter.execute(f"run {time}")
            self.answers(interpreter, ("now", str(time)))

    def test_status(self):
        interpreter = loaded(FULL)
        self.answers(interpreter, *[(f"status {process}", "ready") for process in range(6)])
        interpreter.execute("run 2")
        self.answers(interpreter, *[(f"status {process}", answer) for process, answer in enumerate(
            ("suspended 0 8", "asleep 8", "empty 0", "closed 0", "full 1 1", "wants 0")
        )])
        interpreter.execute("run 100")
        self.answers(interpreter, ("status 0", "finished"), ("status 5", "finished"))
        self.refused(interpreter, NumberError, "status 6", "status 7", f"status {LONG}")

    def test_status_of_a_great_wait(self):
        interpreter = loaded(made((("wait", 10 ** 3999),)), "run 0")
        self.answers(interpreter, ("status 0", "asleep 1" + "0" * 3999))

    def test_queue(self):
        interpreter = loaded(made(
            "take 0 5, take 1 0, wait 9, give 1, give 0", "take 0 9, give 0", "take 0 3, wait 1, give 0", "take 1 0, give 1",
            "wait 1, take 0 4, give 0",
            resources=(("rank", 1), ("fifo", 1), ("preempt", 2)),
        ))
        self.answers(interpreter, ("queue 0", "-"), ("queue 1", "-"), ("queue 2", "-"))
        interpreter.execute("run 0")
        self.answers(interpreter, ("queue 0", "2 1"), ("queue 1", "3"), ("queue 2", "-"))
        interpreter.execute("run 1")
        self.answers(interpreter, ("queue 0", "2 4 1"))
        self.refused(interpreter, NumberError, "queue 3", "queue 4", f"queue {LONG}")
        self.refused(Interpreter(), NumberError, "queue 0")

    def test_items(self):
        interpreter = loaded(made("get 0, wait 1, put 0 0, wait 1, put 0 12", stores=((3, (5,)), (2, (99, 0)))))
        self.answers(interpreter, ("items 0", "5"), ("items 1", "99 0"), ("step", "0 0 got 0 5\n0 0 sleep 1"),
                     ("items 0", "-"))
        interpreter.execute("run 1")
        self.answers(interpreter, ("items 0", "0"))
        interpreter.execute("run 2")
        self.answers(interpreter, ("items 0", "0 12"))
        self.refused(interpreter, NumberError, "items 2", "items 3")

    def test_gate(self):
        interpreter = loaded(made("wait 1, shut 0, open 1", gates=("open", "shut")))
        self.answers(interpreter, ("gate 0", "open"), ("gate 1", "shut"))
        interpreter.execute("run 1")
        self.answers(interpreter, ("gate 0", "shut"), ("gate 1", "open"))
        self.refused(interpreter, NumberError, "gate 2", "gate 3", f"gate {LONG}")

    def test_stuck(self):
        interpreter = loaded(CROSS)
        self.answers(interpreter, ("stuck", "-"))
        interpreter.execute("run 0")
        self.answers(interpreter, ("stuck", "-"))
        interpreter.execute("step")
        # What counts is what there is after all entries of the present time.
        self.answers(interpreter, ("now", "1"), ("status 1", "ready"), ("stuck", "0 1"))
        self.answers(interpreter, ("run 200", "1 1 wake\n1 1 ask 0"), ("stuck", "0 1"))

    def test_stuck_before_the_first_step(self):
        interpreter = loaded(made("pass 0", "", gates=("shut",)))
        self.answers(interpreter, ("status 0", "ready"), ("stuck", "0"))

    def test_rhythm(self):
        for model, word in ((SHOP, "ends"), (CROSS, "stuck"), (TURNS, "cycle"), (made("wait 300"), "open")):
            interpreter = loaded(model)
            self.answers(interpreter, ("rhythm", word))
            interpreter.execute("run 150")
            self.answers(interpreter, ("rhythm", word), ("now", "150"))


class Undo(Case):

    def test_step_and_run(self):
        interpreter = loaded(SHOP)
        first = state(interpreter)
        interpreter.execute("step")
        second = state(interpreter)
        interpreter.execute("run 3")
        third = state(interpreter)
        interpreter.execute("step")
        self.assertEqual(len(interpreter), 4)
        for expected in (third, second, first):
            self.answers(interpreter, ("undo", "ok"))
            self.assertEqual(state(interpreter), expected)
        self.answers(interpreter, ("run 200", texts(trace(SHOP, 200))))

    def test_load(self):
        interpreter = loaded(SHOP, "run 3")
        before = state(interpreter)
        self.answers(interpreter, ("load " + format_model(BELT), "ok"), ("run 9", texts(trace(BELT, 9))))
        self.assertEqual(len(interpreter), 4)
        self.answers(interpreter, ("undo", "ok"), ("undo", "ok"))
        self.assertEqual(state(interpreter), before)
        self.answers(interpreter, ("undo", "ok"), ("undo", "ok"), ("status 0", "ready"))
        self.assertEqual(state(interpreter), state(Interpreter()))
        self.refused(interpreter, UndoError, "undo", "undo")

    def test_after_a_step_in_which_nothing_happened(self):
        interpreter = loaded(SHOP, "run 200", "step", "step", "run 200")
        self.assertEqual(len(interpreter), 5)
        self.answers(interpreter, ("undo", "ok"), ("undo", "ok"), ("undo", "ok"), ("now", "200"))
        self.assertEqual(len(interpreter), 2)
        self.answers(interpreter, ("undo", "ok"), ("now", "0"), ("status 0", "ready"))

    def test_nothing_to_undo(self):
        interpreter = Interpreter()
        self.refused(interpreter, UndoError, "undo")
        interpreter.execute("step")
        self.answers(interpreter, ("undo", "ok"))
        self.refused(interpreter, UndoError, "undo", "undo")
        self.assertEqual(len(interpreter), 0)
        self.answers(interpreter, ("step", "0 0 end"))
        self.assertEqual(len(interpreter), 1)

    def test_undo_is_not_undone(self):
        interpreter = loaded(SHOP, "step", "step")
        self.answers(interpreter, ("undo", "ok"), ("undo", "ok"), ("status 0", "ready"))
        self.assertEqual(len(interpreter), 1)

    def test_other_commands_are_not_undone(self):
        interpreter = loaded(FULL, "run 1")
        for line in (*QUESTIONS, "queue 0", "items 1", "gate 0"):
            interpreter.execute(line)
        self.assertEqual(len(interpreter), 2)
        self.answers(interpreter, ("undo", "ok"), ("now", "0"))

    def test_what_is_refused_is_not_undone(self):
        interpreter = loaded(SHOP, "run 1")
        self.refused(interpreter, NumberError, "run 0", "run 201", "status 2")
        self.refused(interpreter, ParseError, "load x")
        self.refused(interpreter, CommandError, "walk", None, "run")
        self.assertEqual(len(interpreter), 2)
        self.answers(interpreter, ("undo", "ok"), ("now", "0"), ("undo", "ok"))
        self.refused(interpreter, UndoError, "undo")

    def test_another_way_after_undo(self):
        interpreter = loaded(SHOP, "run 1", "undo", "run 3", "undo", "step")
        self.assertEqual(len(interpreter), 2)
        self.answers(interpreter, ("run 3", texts(trace(SHOP, 3)[2:])), ("undo", "ok"), ("step", "0 1 sleep 1"))

    def test_many(self):
        model = made((("forever", acts("wait 1, mark 1")),))
        interpreter = loaded(model)
        states = []
        for time in range(0, 60, 2):
            states.append((interpreter.execute("now"), interpreter.execute("status 0"), len(interpreter)))
            interpreter.execute("step" if time % 4 else f"run {max(time, int(interpreter.execute('now')))}")
        while states:
            self.answers(interpreter, ("undo", "ok"))
            found = interpreter.execute("now"), interpreter.execute("status 0"), len(interpreter)
            self.assertEqual(found, states.pop())


class NoCommands(Case):

    def test_no_strings(self):
        for interpreter in (Interpreter(), loaded(SHOP, "run 1")):
            self.refused(interpreter, CommandError, *NOT_STRINGS, ["now"], ("now",), {"now": 1}, SHOP)

    def test_unknown_words(self):
        self.refused(loaded(SHOP, "step"), CommandError, "", " ", "\n", "stop", "Now", "NOW", "steps", "st", "0", "5",
                     "left 0", "finished", "horizon 5", "run", "status", "queue", "items", "gate", "process", "advance 3",
                     "peek 3", "events", "-", "ok", "now;step", "step,step")

    def test_words_behind(self):
        self.refused(loaded(SHOP), CommandError, "step 1", "undo 1", "now 0", "stuck 0", "rhythm 0", "step step",
                     "run 1 2", "status 0 0", "queue 0 0", "items 0 1", "gate 0 0", "run x", "status all", "gate open",
                     "run now", "status zero")

    def test_spaces(self):
        lines = ("step", "run 1", "undo", "now", "status 0", "queue 0", "items 0", "gate 0", "stuck", "rhythm")
        for line in lines:
            self.refused(loaded(FULL, "step"), CommandError, " " + line, line + " ", line + "  ", line + "\n", "\n" + line,
                         line + "\t", *([line.replace(" ", "  "), line.replace(" ", "\n"), line.replace(" ", "\t"),
                                         line.replace(" ", "")] if " " in line else []))

    def test_numbers(self):
        for word in ("run", "status", "queue", "items", "gate"):
            self.refused(loaded(FULL, "step"), CommandError, *[f"{word} {number}" for number in (
                "00", "01", "007", "+1", "-1", "-0", "1.0", "1e1", "1_0", "0x1", "one", "1" + "0" * 12, "0" * 13,
                "9" * 13, "9" * 4000, "\u0661", "\u00b2", "True", "None",
            )])

    def test_twelve_digits_are_a_number(self):
        self.refused(loaded(FULL), NumberError, *[f"{word} {number}" for number in ("9" * 12, "1" + "0" * 11)
                                                  for word in ("run", "status", "queue", "items", "gate")])

    def test_no_command_comes_first(self):
        # Each of them would be wrong in another way, too.
        interpreter = Interpreter()
        self.refused(interpreter, CommandError, "undo ", "run 0201", "status 09", "queue 00", "run 201 ", " undo",
                     "run  201", "gate 1" + "0" * 12)
        self.refused(interpreter, NumberError, "run 201", "status 9", "queue 0", "gate 100000000000")
        self.refused(interpreter, UndoError, "undo")

    def test_errors_are_of_one_family(self):
        interpreter = Interpreter()
        for line in ("nonsense", "undo", "status 1", "load x", None, 5, "run 999"):
            with self.assertRaises(EventsimError):
                interpreter.execute(line)


if __name__ == "__main__":
    unittest.main()
