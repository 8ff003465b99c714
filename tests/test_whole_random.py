"""The whole program for many small models: what one function promises of another one's answer."""

import functools
import random
import unittest

from eventsim.commands import Interpreter
from eventsim.measures import flow, holds, marks, total_wait
from eventsim.models import beside, scaled, unrolled
from eventsim.queues import Line, PreemptLine, RankLine
from eventsim.rhythms import is_rhythm, pace, rhythm
from eventsim.simulation import Simulation, peek
from eventsim.stuck import first_stuck, is_stuck, largest_stuck, providers
from eventsim.texts import format_event, format_model, parse_event, parse_model
from eventsim.traces import moment_of, own_trace, resume, situation, trace
from tests.random_models import random_model
from tests.reference import Reference, rhythm_of

HORIZON = 24
SEEDS = range(400)
SOME = range(0, 400, 5)
KINDS = {"fifo": Line, "rank": RankLine, "preempt": PreemptLine}


@functools.cache
def model_of(seed):
    return random_model(seed)


@functools.cache
def reference_of(seed):
    return Reference(model_of(seed), HORIZON, keep_records=True)


@functools.cache
def rhythm_told(seed):
    return rhythm(model_of(seed))


def line_rows(line, rows):
    """The requests of a situation as a line tells them: those that hold, and those that wait in their order."""
    holders = tuple(row[:2] for row in rows if row[2] == "holds")
    waiting = tuple(row[:2] for row in rows if row[2] == "waits")
    return holders, waiting if line.__class__ is Line else tuple(sorted(waiting, key=lambda row: row[0]))


def texts(rows):
    return "\n".join([format_event(row) for row in rows]) or "-"


class Case(unittest.TestCase):

    def each(self, seeds=SEEDS):
        for seed in seeds:
            with self.subTest(seed=seed):
                yield seed, model_of(seed)

    def check_view(self, simulation, view):
        """Whether a simulation tells what a situation does, in which processes may be ready."""
        model = simulation.model
        for process, (status, left) in enumerate(view[0]):
            self.assertEqual(simulation.status(process), status)
            self.assertEqual(simulation.left(process), left)
        for resource, rows in enumerate(view[1]):
            line = simulation.queue(resource)
            self.assertIs(line.__class__, KINDS[model[0][resource][0]])
            self.assertEqual((line.holders(), line.waiting()), line_rows(line, rows))
            self.assertEqual(line.free, model[0][resource][1] - len(line.holders()))
        self.assertEqual([simulation.items(store) for store in range(len(model[1]))], [row[0] for row in view[2]])
        self.assertEqual([simulation.is_open(gate) for gate in range(len(model[2]))],
                         [row[0] == "open" for row in view[3]])
        self.assertEqual(simulation.next_time, simulation.now + view[4][0][0] if view[4] else None)
        self.assertEqual(simulation.finished,
                         tuple(process for process, (status, _) in enumerate(view[0]) if status == ("finished",)))


class Simulations(Case):

    def test_step_by_step(self):
        for seed, model in self.each():
            reference = reference_of(seed)
            simulation = Simulation(model, horizon=HORIZON)
            self.check_view(simulation, reference.records[0][2])
            count = 0
            for time, many, view in reference.records[1:]:
                self.assertEqual(simulation.step(), tuple(reference.events[count:many]))
                self.assertEqual((simulation.now, len(simulation)), (time, many))
                self.check_view(simulation, view)
                count = many
            self.assertEqual(simulation.step(), ())

    def test_statuses_of_every_kind_are_met(self):
        found = {
            status[0] for seed in SEEDS for record in reference_of(seed).records for status, _ in record[2][0]
        }
        self.assertEqual(found, {"ready", "asleep", "suspended", "wants", "full", "empty", "closed", "finished"})

    def test_after_each_time_as_the_situation(self):
        for seed, model in self.each(SOME):
            simulation = Simulation(model)
            for time in (0, 1, 2, 3, 5, 8, HORIZON):
                ahead = peek(simulation, time)
                before = len(simulation)
                self.assertEqual(simulation.advance(time), ahead)
                self.assertEqual(ahead, trace(model, time)[before:])
                self.check_view(simulation, situation(model, time))

    def test_events(self):
        for seed, model in self.each():
            simulation = Simulation(model, horizon=HORIZON)
            self.assertEqual(tuple(simulation.events()), tuple(reference_of(seed).events))
            twin = Simulation(model, horizon=HORIZON)
            twin.advance(HORIZON)
            self.assertEqual(simulation == twin, simulation.now == HORIZON)

    def test_copies_and_trials_at_any_point(self):
        for seed, model in self.each():
            chance = random.Random(seed)
            records = reference_of(seed).records
            simulation = Simulation(model, horizon=HORIZON)
            for time, many, view in records[1:12]:
                simulation.step()
                twin = simulation.copy()
                with simulation.trial() as held:
                    held.advance(chance.randint(held.now, HORIZON))
                    held.step()
                    self.assertEqual(twin.now, time)
                self.check_view(simulation, view)
                self.assertEqual((simulation, len(simulation)), (twin, many))
                if chance.random() < 0.5:
                    simulation, twin = twin, simulation
                twin.advance(HORIZON)
                self.assertEqual(len(twin), len(reference_of(seed).events))

    def test_equal_is_who_has_done_as_much(self):
        for seed, model in self.each(SOME):
            points = [Simulation(model)]
            for _ in range(5):
                points.append(points[-1].copy())
                points[-1].step()
            points.append(points[-1].copy())
            points[-1].advance(points[-1].now + 3)
            for one in points:
                for other in points:
                    alike = (one.now, len(one)) == (other.now, len(other))
                    self.assertEqual((one == other, one != other), (alike, not alike))


class Rhythms(Case):

    def test_against_the_second_simulation(self):
        words = {}
        for seed, model in self.each(range(0, 400, 3)):
            found = rhythm_told(seed)
            self.assertEqual(found, rhythm_of(model))
            words[found[0]] = words.get(found[0], 0) + 1
        self.assertEqual(set(words), {"ends", "stuck", "cycle"})
        self.assertGreater(min(words.values()), 8)

    def test_each_rhythm_is_a_certificate(self):
        for seed, model in self.each():
            found = rhythm_told(seed)
            self.assertEqual(is_rhythm(model, found), found != ("open",))

    def test_situations_of_cycles(self):
        for seed, model in self.each():
            found = rhythm_told(seed)
            if found[0] != "cycle":
                continue
            _, start, period, rounds = found
            self.assertEqual(situation(model, start), situation(model, start + period))
            self.assertEqual(moment_of(model, situation(model, start + period)), start)
            self.assertEqual(resume(model, situation(model, start), period),
                             resume(model, situation(model, start + period), period))
            self.assertEqual([pace(model, process) for process in range(len(model[3]))],
                             [self.reduced(number, period) for number in rounds])
            self.check_certificates(model, found)

    def reduced(self, numerator, denominator):
        for number in range(denominator, 0, -1):
            if numerator % number == 0 and denominator % number == 0:
                return numerator // number, denominator // number
        return None

    def check_certificates(self, model, found):
        _, start, period, rounds = found
        for later, many in ((1, 1), (period, 1), (0, 2), (3, 2), (200 - start - period, 1)):
            if later >= 0 and start + later + many * period <= 200:
                thing = ("cycle", start + later, many * period, tuple(many * number for number in rounds))
                self.assertTrue(is_rhythm(model, thing))
                self.assertFalse(is_rhythm(model, (*thing[:3], (rounds[0] + 1, *rounds[1:])) if many == 1 else None))
        if start > 0:
            self.assertFalse(is_rhythm(model, ("cycle", start - 1, period, rounds)))
        for other in range(1, period):
            self.assertFalse(is_rhythm(model, ("cycle", start, other, rounds)))

    def test_rounds_are_the_marks_at_their_beginning(self):
        for seed, model in self.each():
            found = rhythm_told(seed)
            if found[0] == "cycle":
                _, start, period, rounds = found
                marked = (*model[:3], tuple(
                    tuple((row[0], (("mark", 0), *row[1])) if row[0] == "forever" else row for row in self.bare(script))
                    for script in model[3]
                ))
                rows = [row for row in marks(marked, 0, start + period) if row[0] > start]
                self.assertEqual(rounds, tuple(
                    sum(row[1] == process for row in rows) for process in range(len(model[3]))
                ))

    def bare(self, script):
        """The script with other numbers of marks than 0."""
        return tuple(
            (*row[:-1], self.bare(row[-1])) if row[0] in ("repeat", "forever")
            else ("mark", max(row[1], 1)) if row[0] == "mark" else row
            for row in script
        )

    def test_ends_and_halts(self):
        for seed, model in self.each():
            found = rhythm_told(seed)
            if found[0] not in ("ends", "stuck"):
                continue
            time = found[1]
            members = found[2] if found[0] == "stuck" else ()
            self.assertEqual(largest_stuck(model, time), members)
            self.assertTrue(is_stuck(model, time, members))
            self.assertEqual(trace(model, time), trace(model, 200))
            self.assertEqual(moment_of(model, situation(model, 200)), time)
            self.assertEqual(situation(model, time)[4], ())
            self.assertIsNone(pace(model, 0))
            simulation = Simulation(model, horizon=200)
            simulation.advance(time)
            self.assertEqual(simulation.finished,
                             tuple(process for process in range(len(model[3])) if process not in members))
            self.assertIsNone(simulation.next_time)
            self.assertFalse(is_rhythm(model, (found[0], time - 1, *found[2:])))
            self.assertTrue(is_rhythm(model, (found[0], 200, *found[2:])))

    def test_unrolled_and_scaled(self):
        for seed, model in self.each(range(0, 400, 2)):
            found = rhythm_told(seed)
            if found[0] == "open":
                continue
            # The rest of an unrolled script depends on the rest of the script alone.
            self.assertTrue(is_rhythm(unrolled(model), found))
            for factor in (1, 3):
                times = 2 if found[0] == "cycle" else 1
                numbers = tuple(number * factor for number in found[1:1 + times])
                if sum(numbers) <= 200:
                    self.assertTrue(is_rhythm(scaled(model, factor), (found[0], *numbers, *found[1 + times:])))

    def test_beside(self):
        for seed in range(0, 120, 2):
            one, other = random_model(seed, 2), random_model(seed + 1, 2)
            if any(len(one[at]) + len(other[at]) > most for at, most in enumerate((4, 3, 3))):
                continue
            both = beside(one, other)
            words = {rhythm(one)[0], rhythm(other)[0]}
            found = rhythm(both)
            if words == {"ends"}:
                self.assertEqual(found, ("ends", max(rhythm(one)[1], rhythm(other)[1])))
            elif words <= {"ends", "stuck"}:
                time = max(rhythm(one)[1], rhythm(other)[1])
                members = largest_stuck(one, time) + tuple(number + 2 for number in largest_stuck(other, time))
                self.assertEqual(found, ("stuck", time, members))
            else:
                self.assertIn(found[0], ("cycle", "open"))


class Texts(Case):

    def test_models(self):
        for seed, model in self.each():
            text = format_model(model)
            self.assertEqual(parse_model(text), model)
            simulation = Simulation.read(text)
            self.assertEqual(simulation, Simulation(model))
            self.assertEqual(simulation.advance(HORIZON), tuple(reference_of(seed).events))

    def test_events(self):
        for seed, model in self.each(SOME):
            for event in reference_of(seed).events:
                self.assertEqual(parse_event(format_event(event)), event)

    def test_scripts_that_are_left_are_scripts(self):
        for seed, model in self.each(SOME):
            for time in (0, 2, 7):
                # Units that are held are given in it, so that it need not be balanced; without resources it is a model.
                rows = [left for _, left in situation(model, time)[0]]
                if not model[0]:
                    one = (*model[:3], tuple(rows))
                    self.assertEqual(parse_model(format_model(one)), one)


class Interpreters(Case):

    def test_tells_the_same(self):
        for seed, model in self.each(range(0, 400, 4)):
            chance = random.Random(seed)
            interpreter, simulation, earlier = Interpreter(), Simulation(model, horizon=200), []
            self.assertEqual(interpreter.execute("load " + format_model(model)), "ok")
            for _ in range(8):
                kind = chance.choice(("step", "step", "run", "undo"))
                if kind == "step":
                    earlier.append(simulation.copy())
                    self.assertEqual(interpreter.execute("step"), texts(simulation.step()))
                elif kind == "run":
                    earlier.append(simulation.copy())
                    time = min(simulation.now + chance.randrange(4), 200)
                    self.assertEqual(interpreter.execute(f"run {time}"), texts(simulation.advance(time)))
                elif earlier:
                    simulation = earlier.pop()
                    self.assertEqual(interpreter.execute("undo"), "ok")
                self.assertEqual(len(interpreter), len(earlier) + 1)
                self.check_answers(interpreter, simulation)

    def check_answers(self, interpreter, simulation):
        model = simulation.model
        self.assertEqual(interpreter.execute("now"), str(simulation.now))
        for process in range(len(model[3])):
            self.assertEqual(interpreter.execute(f"status {process}").split(" "),
                             [str(part) for part in simulation.status(process)])
        for resource in range(len(model[0])):
            rows = [str(process) for _, process in simulation.queue(resource).waiting()]
            self.assertEqual(interpreter.execute(f"queue {resource}"), " ".join(rows) or "-")
        for store in range(len(model[1])):
            rows = [str(item) for item in simulation.items(store)]
            self.assertEqual(interpreter.execute(f"items {store}"), " ".join(rows) or "-")
        for gate in range(len(model[2])):
            self.assertEqual(interpreter.execute(f"gate {gate}"), "open" if simulation.is_open(gate) else "shut")
        members = largest_stuck(model, simulation.now)
        self.assertEqual(interpreter.execute("stuck"), " ".join(str(part) for part in members) or "-")

    def test_rhythms(self):
        for seed, model in self.each(range(0, 400, 16)):
            interpreter = Interpreter()
            interpreter.execute("load " + format_model(model))
            self.assertEqual(interpreter.execute("rhythm"), rhythm_told(seed)[0])


class OneRun(Case):
    """Measures, stuck sets and single processes, as a simulation has them."""

    def test_holders_are_in_their_holds(self):
        for seed, model in self.each(SOME):
            simulation = Simulation(model)
            for time in (0, 1, 3, 6, 12):
                simulation.advance(time)
                for resource in range(len(model[0])):
                    now = sorted(row[0] for row in holds(model, resource, HORIZON) if row[1] <= time < row[2])
                    self.assertEqual(sorted(row[1] for row in simulation.queue(resource).holders()), now)

    def test_items_are_what_has_flowed_in_and_not_out(self):
        for seed, model in self.each(SOME):
            simulation = Simulation(model)
            for time in (0, 2, 5, HORIZON):
                simulation.advance(time)
                for store, (_, kept) in enumerate(model[1]):
                    put, got = flow(model, store, time)
                    self.assertEqual(simulation.items(store), (kept + put)[len(got):])

    def test_waits_as_the_queue_grows(self):
        for seed, model in self.each(SOME):
            simulation = Simulation(model)
            sums = [0] * len(model[0])
            for time in range(HORIZON):
                simulation.advance(time)
                sums = [total + simulation.queue(resource).length for resource, total in enumerate(sums)]
            self.assertEqual(sums, [total_wait(model, resource, HORIZON) for resource in range(len(model[0]))])

    def test_stuck_processes_have_no_events(self):
        for seed, model in self.each(SOME):
            found = first_stuck(model, HORIZON)
            if found is None:
                continue
            time, members = found
            simulation = Simulation(model, horizon=200)
            simulation.advance(time)
            rows = simulation.advance(120)
            self.assertEqual([row for row in rows if row[1] in members], [])
            for process in members:
                self.assertLessEqual(set(providers(model, time, process)), set(members))
                self.assertEqual(own_trace(model, process, 120), own_trace(model, process, time))


if __name__ == "__main__":
    unittest.main()
