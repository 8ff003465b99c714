"""Point [80]: steps of simulations, their horizon, and what they tell."""

import inspect
import itertools
import unittest

from eventsim.errors import ModelError, NumberError, ParseError
from eventsim.queues import Line, PreemptLine, RankLine
from eventsim.simulation import Simulation, peek
from eventsim.traces import trace
from tests.samples import BELT, CROSS, IDLE, NO_MODELS, NO_TIMES, NOT_INTEGERS, RICH, SHOP, acts, made, told

# Statuses of every kind come up in it.
FULL = made(
    "take 0 1, take 1 1, wait 9, give 1, give 0",
    "wait 1, take 0 0, wait 9, give 0",
    "get 0, mark 1",
    "pass 0",
    "put 1 1",
    "wait 2, take 0 0, give 0",
    resources=(("preempt", 1), ("fifo", 2)), stores=((1, ()), (2, (0, 9))), gates=("shut", "open"),
)
BEYOND = (10 ** 11, -(10 ** 11))


def statuses(simulation):
    return [simulation.status(process) for process in range(len(simulation.model[3]))]


def state(simulation):
    """All that a simulation tells of itself."""
    resources, stores, gates, scripts = simulation.model
    return (
        simulation.now, simulation.next_time, simulation.finished, simulation.horizon, len(simulation),
        repr(simulation), statuses(simulation), [simulation.left(process) for process in range(len(scripts))],
        [(line.__class__, line.holders(), line.waiting(), repr(line)) for line in
         [simulation.queue(resource) for resource in range(len(resources))]],
        [simulation.items(store) for store in range(len(stores))],
        [simulation.is_open(gate) for gate in range(len(gates))],
    )


class Case(unittest.TestCase):

    def refused(self, call, *values, error=NumberError):
        for value in values:
            with self.assertRaises(error) as caught:
                call(value)
            self.assertIs(caught.exception.__class__, error)


class Beginning(Case):

    def test_example(self):
        simulation = Simulation(SHOP, horizon=20)
        rows = simulation.advance(1)
        self.assertEqual(rows, (
            (0, 0, "hold", 0), (0, 0, "sleep", 3), (0, 1, "sleep", 1), (1, 1, "wake"), (1, 1, "ask", 0),
        ))
        self.assertEqual(simulation.next_time, 3)
        self.assertEqual(simulation.status(1), ("wants", 0))
        self.assertEqual(simulation.queue(0).waiting(), ((0, 1),))
        self.assertEqual(len(simulation), 5)
        later = ((3, 0, "wake"), (3, 0, "give", 0), (3, 1, "hold", 0), (3, 0, "end"), (3, 1, "sleep", 2))
        self.assertEqual(peek(simulation, 3), later)
        self.assertEqual(simulation.step(), later[:4])
        self.assertEqual(simulation.status(1), ("ready",))
        self.assertEqual(repr(simulation), "Simulation(2 processes, time 3)")

    def test_at_first(self):
        simulation = Simulation(RICH)
        self.assertEqual(state(simulation)[:7], (
            0, 0, (), 100, 0, "Simulation(3 processes, time 0)", [("ready",)] * 3,
        ))
        self.assertEqual([simulation.left(process) for process in range(3)], list(RICH[3]))
        self.assertEqual([simulation.queue(number) for number in range(3)], [Line(1), RankLine(2), PreemptLine(3)])
        self.assertEqual([simulation.items(store) for store in range(2)], [(5, 99), ()])
        self.assertEqual([simulation.is_open(gate) for gate in range(2)], [True, False])

    def test_repr_has_the_same_words_for_all_numbers(self):
        self.assertEqual(repr(Simulation(IDLE)), "Simulation(1 processes, time 0)")
        simulation = Simulation(IDLE, horizon=1)
        simulation.advance(1)
        self.assertEqual(repr(simulation), "Simulation(1 processes, time 1)")
        self.assertEqual(repr(Simulation(made(*[""] * 6))), "Simulation(6 processes, time 0)")

    def test_horizons(self):
        for horizon in (0, 1, 100, 199, 200):
            self.assertEqual(Simulation(SHOP, horizon=horizon).horizon, horizon)
        self.assertEqual(Simulation(SHOP).horizon, 100)
        self.refused(lambda value: Simulation(SHOP, horizon=value), *NO_TIMES)

    def test_the_horizon_by_name_only(self):
        with self.assertRaises(TypeError):
            Simulation(SHOP, 100)
        self.assertEqual(Simulation(horizon=7, model=SHOP).horizon, 7)
        kinds = inspect.signature(Simulation).parameters
        self.assertEqual(kinds["horizon"].kind, inspect.Parameter.KEYWORD_ONLY)
        self.assertEqual(kinds["horizon"].default, 100)

    def test_no_models(self):
        self.refused(Simulation, *NO_MODELS, error=ModelError)
        self.refused(lambda value: Simulation(value, horizon=-1), *NO_MODELS, error=ModelError)

    def test_most_events(self):
        self.assertEqual(Simulation.MOST_EVENTS, 3000)
        self.assertIs(Simulation.MOST_EVENTS.__class__, int)
        self.assertEqual(Simulation(IDLE).MOST_EVENTS, 3000)
        self.assertIn("MOST_EVENTS", vars(Simulation))

    def test_everything_is_defined_in_the_class_itself(self):
        for name in ("step", "advance", "events", "status", "left", "items", "queue", "is_open", "copy", "trial",
                     "read", "set_horizon", "now", "next_time", "finished", "horizon",
                     "__len__", "__eq__", "__repr__", "__init__"):
            self.assertIn(name, vars(Simulation))
        for name in ("now", "next_time", "finished", "horizon"):
            self.assertIsInstance(vars(Simulation)[name], property)
        for name, names in (("step", ()), ("advance", ("time",)), ("events", ()), ("status", ("process",)),
                            ("left", ("process",)), ("items", ("store",)), ("queue", ("resource",)),
                            ("is_open", ("gate",)), ("copy", ()), ("trial", ()), ("set_horizon", ("value",))):
            self.assertEqual(tuple(inspect.signature(vars(Simulation)[name]).parameters), ("self", *names))
        self.assertEqual(tuple(inspect.signature(Simulation.read).parameters), ("text",))
        self.assertEqual(tuple(inspect.signature(peek).parameters), ("simulation", "time"))


class Steps(Case):

    def test_one_entry_at_a_time(self):
        simulation = Simulation(SHOP)
        steps = (
            ("0 0 hold 0", "0 0 sleep 3"), ("0 1 sleep 1",), ("1 1 wake", "1 1 ask 0"),
            ("3 0 wake", "3 0 give 0", "3 1 hold 0", "3 0 end"), ("3 1 sleep 2",),
            ("5 1 wake", "5 1 give 0", "5 1 end"),
        )
        times = ((0, 0), (0, 1), (1, 3), (3, 3), (3, 5), (5, None))
        count = 0
        for expected, (now, next_time) in zip(steps, times):
            rows = simulation.step()
            count += len(rows)
            self.assertIs(rows.__class__, tuple)
            self.assertEqual(tuple(told(rows)), expected)
            self.assertEqual((simulation.now, simulation.next_time, len(simulation)), (now, next_time, count))
        self.assertEqual(simulation.finished, (0, 1))

    def test_at_the_end_nothing_happens(self):
        for model in (IDLE, SHOP, CROSS, BELT):
            simulation = Simulation(model)
            while simulation.step():
                pass
            before = state(simulation)
            self.assertIsNone(simulation.next_time)
            self.assertEqual([simulation.step(), simulation.step()], [(), ()])
            self.assertEqual(state(simulation), before)

    def test_the_next_time_at_the_horizon_and_beyond_it(self):
        simulation = Simulation(made("wait 5, wait 5"), horizon=4)
        self.assertEqual(told(simulation.step()), ["0 0 sleep 5"])
        before = state(simulation)
        self.assertEqual(simulation.step(), ())
        self.assertEqual(state(simulation), before)
        self.assertEqual((simulation.now, simulation.next_time), (0, 5))
        simulation.horizon = 5
        self.assertEqual(told(simulation.step()), ["5 0 wake", "5 0 sleep 5"])
        self.assertEqual(simulation.step(), ())
        self.assertEqual((simulation.now, simulation.next_time), (5, 10))

    def test_horizon_0(self):
        simulation = Simulation(made("wait 1", "mark 1"), horizon=0)
        self.assertEqual(told(simulation.step() + simulation.step()), ["0 0 sleep 1", "0 1 mark 1", "0 1 end"])
        self.assertEqual(simulation.step(), ())
        self.assertEqual(simulation.now, 0)
        self.assertEqual(simulation.advance(0), ())

    def test_a_step_is_never_empty_before_the_end(self):
        model = made("wait 0, wait 0", "", ("repeat", 0, acts("mark 1"))[:0], "wait 0, pass 0", gates=("open",))
        simulation = Simulation(model)
        self.assertEqual([told(simulation.step()) for _ in range(5)], [
            ["0 0 end"], ["0 1 end"], ["0 2 end"], ["0 3 pass 0", "0 3 end"], [],
        ])

    def test_those_who_were_served_come_behind_those_who_were_there(self):
        model = made("pass 0, mark 1", "open 0, mark 2", "mark 3", gates=("shut",))
        simulation = Simulation(model)
        self.assertEqual([told(simulation.step()) for _ in range(4)], [
            ["0 0 closed 0"], ["0 1 open 0", "0 0 pass 0", "0 1 mark 2", "0 1 end"], ["0 2 mark 3", "0 2 end"],
            ["0 0 mark 1", "0 0 end"],
        ])


class Advances(Case):

    def test_to_now(self):
        simulation = Simulation(SHOP)
        self.assertEqual(told(simulation.advance(0)), ["0 0 hold 0", "0 0 sleep 3", "0 1 sleep 1"])
        self.assertEqual(simulation.advance(0), ())
        simulation.advance(2)
        before = state(simulation)
        self.assertEqual(simulation.advance(2), ())
        self.assertEqual(state(simulation), before)

    def test_between_entries_of_the_same_time(self):
        simulation = Simulation(SHOP)
        simulation.advance(2)
        simulation.step()
        self.assertEqual((simulation.now, simulation.next_time), (3, 3))
        self.assertEqual(told(simulation.advance(3)), ["3 1 sleep 2"])
        self.assertEqual((simulation.now, simulation.next_time), (3, 5))

    def test_to_the_horizon(self):
        simulation = Simulation(SHOP, horizon=7)
        self.assertEqual(simulation.advance(7), trace(SHOP, 7))
        self.assertEqual((simulation.now, simulation.next_time), (7, None))
        simulation = Simulation(SHOP, horizon=4)
        self.assertEqual(simulation.advance(4), trace(SHOP, 4))
        self.assertEqual((simulation.now, simulation.next_time), (4, 5))
        simulation = Simulation(SHOP, horizon=200)
        self.assertEqual(simulation.advance(200), trace(SHOP, 200))
        self.assertEqual(simulation.now, 200)

    def test_sets_the_time_also_when_nothing_happens(self):
        simulation = Simulation(IDLE)
        for time in (0, 3, 50, 100):
            simulation.advance(time)
            self.assertEqual((simulation.now, len(simulation)), (time, 1))

    def test_beyond_either(self):
        simulation = Simulation(SHOP, horizon=30)
        simulation.advance(4)
        before = state(simulation)
        self.refused(simulation.advance, -1, 0, 3, 31, 32, 200, 201, *BEYOND, *NOT_INTEGERS)
        self.assertEqual(state(simulation), before)
        self.assertEqual(simulation.advance(time=30), trace(SHOP, 30)[10:])

    def test_in_parts_is_the_same_as_at_once(self):
        for model in (SHOP, BELT, CROSS, RICH, FULL):
            for times in ((0, 1, 2, 3, 4, 5, 20), (2, 2, 9, 20), (19, 20), (20,)):
                simulation = Simulation(model, horizon=20)
                rows = sum([simulation.advance(time) for time in times], ())
                self.assertEqual(rows, trace(model, 20))
                self.assertEqual(len(simulation), len(rows))


class Horizons(Case):

    def test_both_ways(self):
        for way in (lambda one, value: setattr(one, "horizon", value), Simulation.set_horizon):
            simulation = Simulation(SHOP, horizon=50)
            simulation.advance(10)
            for value in (10, 200, 49, 11, 199, 10):
                self.assertIsNone(way(simulation, value))
                self.assertEqual(simulation.horizon, value)
                before = state(simulation)
                self.refused(lambda wrong: way(simulation, wrong), 9, 0, -1, 201, 202, *BEYOND, *NOT_INTEGERS)
                self.assertEqual(state(simulation), before)

    def test_nothing_else_changes(self):
        simulation = Simulation(SHOP, horizon=50)
        simulation.advance(1)
        before = state(simulation)
        simulation.set_horizon(60)
        self.assertEqual(state(simulation), before[:3] + (60,) + before[4:])
        simulation.set_horizon(value=50)
        self.assertEqual(state(simulation), before)

    def test_now_is_the_least(self):
        simulation = Simulation(SHOP, horizon=0)
        simulation.set_horizon(0)
        simulation.set_horizon(5)
        simulation.advance(5)
        simulation.horizon = 5
        self.refused(simulation.set_horizon, 4)
        self.assertEqual(simulation.horizon, 5)
        self.refused(simulation.advance, 6)

    def test_other_properties_cannot_be_set(self):
        simulation = Simulation(SHOP)
        for name in ("now", "next_time", "finished"):
            with self.assertRaises(AttributeError):
                setattr(simulation, name, 1)


class Events(Case):

    def test_a_generator_to_the_end(self):
        for model in (SHOP, BELT, CROSS, FULL, IDLE):
            simulation = Simulation(model, horizon=30)
            rows = simulation.events()
            self.assertTrue(inspect.isgenerator(rows))
            self.assertEqual(tuple(rows), trace(model, 30))
            self.assertEqual(list(simulation.events()), [])
            last = trace(model, 30)[-1][0]
            self.assertEqual((simulation.now, simulation.next_time), (last, None))

    def test_nothing_happens_before_the_first_one_is_asked_for(self):
        simulation = Simulation(SHOP)
        before = state(simulation)
        rows = simulation.events()
        self.assertEqual(state(simulation), before)
        self.assertEqual(next(rows), (0, 0, "hold", 0))
        self.assertEqual((len(simulation), simulation.now, simulation.next_time), (2, 0, 0))

    def test_a_whole_step_before_its_first_event(self):
        simulation = Simulation(SHOP)
        seen = [(event, len(simulation), simulation.now) for event in simulation.events()]
        self.assertEqual([row[0] for row in seen], list(trace(SHOP, 100)))
        self.assertEqual([row[1] for row in seen], [2, 2, 3, 5, 5, 9, 9, 9, 9, 10, 13, 13, 13])
        self.assertEqual([row[2] for row in seen], [0, 0, 0, 1, 1, 3, 3, 3, 3, 3, 5, 5, 5])

    def test_left_after_some_and_begun_anew(self):
        simulation = Simulation(SHOP)
        first = list(itertools.islice(simulation.events(), 6))
        self.assertEqual(first[-1], (3, 0, "wake"))
        # The rest of the events of this step is not told again.
        self.assertEqual(told(simulation.events()), ["3 1 sleep 2", "5 1 wake", "5 1 give 0", "5 1 end"])

    def test_other_steps_in_between(self):
        simulation = Simulation(SHOP)
        rows = simulation.events()
        self.assertEqual(next(rows), (0, 0, "hold", 0))
        self.assertEqual(told(simulation.step()), ["0 1 sleep 1"])
        self.assertEqual(told([next(rows), next(rows)]), ["0 0 sleep 3", "1 1 wake"])
        simulation.advance(4)
        self.assertEqual(told(rows), ["1 1 ask 0", "5 1 wake", "5 1 give 0", "5 1 end"])

    def test_two_at_once(self):
        simulation = Simulation(SHOP)
        one, other = simulation.events(), simulation.events()
        self.assertEqual(told([next(one), next(other)]), ["0 0 hold 0", "0 1 sleep 1"])
        self.assertEqual(told([next(one), next(one), next(other)]), ["0 0 sleep 3", "1 1 wake", "3 0 wake"])

    def test_the_horizon_of_the_moment_counts(self):
        simulation = Simulation(SHOP, horizon=2)
        self.assertEqual(len(list(simulation.events())), 5)
        self.assertEqual((simulation.now, simulation.next_time), (1, 3))
        simulation.horizon = 3
        rows = simulation.events()
        self.assertEqual(next(rows), (3, 0, "wake"))
        simulation.horizon = 200
        self.assertEqual(len(list(rows)), 7)
        simulation = Simulation(SHOP, horizon=20)
        rows = simulation.events()
        next(rows)
        simulation.horizon = 0
        self.assertEqual(told(rows), ["0 0 sleep 3", "0 1 sleep 1"])

    def test_no_events_beyond_the_horizon(self):
        self.assertEqual(told(Simulation(made("wait 1"), horizon=0).events()), ["0 0 sleep 1"])


class Tells(Case):

    def test_every_status(self):
        simulation = Simulation(FULL)
        self.assertEqual(statuses(simulation), [("ready",)] * 6)
        simulation.advance(0)
        self.assertEqual(statuses(simulation), [
            ("asleep", 9), ("asleep", 1), ("empty", 0), ("closed", 0), ("full", 1, 1), ("asleep", 2),
        ])
        simulation.advance(1)
        self.assertEqual(statuses(simulation)[:2], [("suspended", 0, 8), ("asleep", 9)])
        simulation.advance(2)
        self.assertEqual(statuses(simulation), [
            ("suspended", 0, 8), ("asleep", 8), ("empty", 0), ("closed", 0), ("full", 1, 1), ("wants", 0),
        ])
        simulation.advance(100)
        self.assertEqual(statuses(simulation)[:2], [("finished",), ("finished",)])
        self.assertEqual(simulation.finished, (0, 1, 5))

    def test_ready_is_who_has_an_entry_now(self):
        simulation = Simulation(made("wait 2, mark 1", "wait 2, mark 2", "wait 2, rouse 3", "wait 9"))
        simulation.advance(1)
        self.assertEqual(statuses(simulation), [("asleep", 1), ("asleep", 1), ("asleep", 1), ("asleep", 8)])
        simulation.step()
        # A sleep that ends now is over, even if the entry is still there.
        self.assertEqual(statuses(simulation), [("finished",), ("ready",), ("ready",), ("asleep", 7)])
        simulation.step()
        simulation.step()
        self.assertEqual(statuses(simulation), [("finished",), ("finished",), ("finished",), ("ready",)])
        self.assertEqual(told(simulation.step()), ["2 3 wake", "2 3 end"])
        self.assertEqual(simulation.finished, (0, 1, 2, 3))

    def test_ready_after_blocking(self):
        simulation = Simulation(made(
            "get 0, mark 1", "take 0 1, give 0, mark 1", "pass 0, mark 1", "open 0, put 0 1, mark 1",
            stores=((1, ()),), gates=("shut",), resources=(("fifo", 1),),
        ))
        for _ in range(4):
            simulation.step()
        self.assertEqual(statuses(simulation), [("ready",), ("finished",), ("ready",), ("finished",)])
        self.assertEqual([simulation.left(process) for process in range(4)], [acts("mark 1"), (), acts("mark 1"), ()])

    def test_asleep_again_after_suspension(self):
        simulation = Simulation(made(
            "take 0 9, wait 9, give 0", "wait 4, take 0 0, wait 3, give 0", resources=(("preempt", 1),),
        ))
        found = []
        for time in (3, 4, 6, 7, 11, 12):
            simulation.advance(time)
            found.append(simulation.status(0))
        self.assertEqual(found, [("asleep", 6), ("suspended", 0, 5), ("suspended", 0, 5), ("asleep", 5), ("asleep", 1),
                                 ("finished",)])

    def test_time_that_is_left_without_an_entry_in_between(self):
        simulation = Simulation(made("wait 100, mark 1"))
        for time in (0, 1, 50, 99):
            simulation.advance(time)
            self.assertEqual(simulation.status(0), ("asleep", 100 - time))
            self.assertEqual(simulation.next_time, 100)
        simulation.advance(100)
        self.assertEqual(simulation.status(0), ("finished",))

    def test_what_is_left(self):
        body = acts("mark 1, wait 1, mark 2")
        simulation = Simulation(made((("repeat", 3, body), ("mark", 3)), (("forever", acts("wait 5, mark 1")),)))
        self.assertEqual(simulation.left(0), (("repeat", 3, body), ("mark", 3)))
        simulation.step()
        self.assertEqual(simulation.left(0), (("mark", 2), ("repeat", 2, body), ("mark", 3)))
        self.assertEqual(simulation.left(1), (("forever", acts("wait 5, mark 1")),))
        simulation.step()
        self.assertEqual(simulation.left(1), (("mark", 1), ("forever", acts("wait 5, mark 1"))))
        simulation.advance(2)
        self.assertEqual(simulation.left(0), (("mark", 2), ("mark", 3)))
        simulation.advance(3)
        self.assertEqual(simulation.left(0), ())

    def test_items(self):
        simulation = Simulation(made("put 0 1, put 0 2, get 0, wait 1, get 0", stores=((3, (7,)), (4, (4, 3)))))
        self.assertEqual((simulation.items(0), simulation.items(store=1)), ((7,), (4, 3)))
        simulation.advance(0)
        self.assertEqual(simulation.items(0), (1, 2))
        simulation.advance(1)
        self.assertEqual(simulation.items(0), (2,))
        self.assertIs(simulation.items(0).__class__, tuple)

    def test_gates(self):
        simulation = Simulation(made("shut 0, open 1, wait 1, open 0, wait 1, shut 1", gates=("open", "shut")))
        found = []
        for time in (0, 1, 2):
            found.append((simulation.is_open(0), simulation.is_open(gate=1)))
            simulation.advance(time)
        found.append((simulation.is_open(0), simulation.is_open(1)))
        self.assertEqual(found, [(True, False), (False, True), (True, True), (True, False)])
        for row in found:
            for value in row:
                self.assertIs(value.__class__, bool)

    def test_finished_ascending(self):
        simulation = Simulation(made("wait 3", "", "wait 1", "pass 0", "wait 2", gates=("shut",)))
        found = []
        for time in range(4):
            simulation.advance(time)
            found.append(simulation.finished)
        self.assertEqual(found, [(1,), (1, 2), (1, 2, 4), (0, 1, 2, 4)])

    def test_next_time(self):
        simulation = Simulation(made("wait 3, wait 300", "wait 1"), horizon=10)
        found = []
        while simulation.step():
            found.append(simulation.next_time)
        self.assertEqual(found, [0, 1, 3, 303])


class Queues(Case):

    def test_of_each_discipline(self):
        scripts = ("take 0 5, wait 9, give 0", "take 0 7, give 0", "take 0 3, wait 1, give 0", "take 0 7, give 0")
        for discipline, kind, order in (
            ("fifo", Line, ((7, 1), (3, 2), (7, 3))),
            ("rank", RankLine, ((3, 2), (7, 1), (7, 3))),
            ("preempt", PreemptLine, ((5, 0), (7, 1), (7, 3))),
        ):
            simulation = Simulation(made(*scripts, resources=((discipline, 1),)))
            for _ in range(4):
                simulation.step()
            line = simulation.queue(resource=0)
            self.assertIs(line.__class__, kind)
            self.assertEqual(line.waiting(), order)
            self.assertEqual(line.holders(), ((3, 2),) if kind is PreemptLine else ((5, 0),))
            self.assertEqual((line.free, line.length), (0, 3))

    def test_equal_to_the_line_of_the_resource(self):
        simulation = Simulation(FULL)
        simulation.advance(2)
        line = PreemptLine(1)
        line.request(0, 1)
        line.preempt(1, 0, (0,))
        line.request(5, 0)
        self.assertEqual(simulation.queue(0), line)
        line.release(1)
        self.assertNotEqual(simulation.queue(0), line)
        plain = Line(2)
        plain.request(0, 1)
        self.assertEqual(simulation.queue(1), plain)

    def test_new_each_time_and_independent(self):
        simulation = Simulation(FULL)
        simulation.advance(2)
        before = state(simulation)
        line = simulation.queue(0)
        self.assertIsNot(simulation.queue(0), line)
        self.assertEqual(simulation.queue(0), line)
        line.release(1)
        line.request(3, 0)
        self.assertEqual(state(simulation), before)
        self.assertNotEqual(simulation.queue(0), line)
        kept = simulation.queue(0)
        held = kept.holders()
        simulation.advance(50)
        self.assertEqual(kept.holders(), held)
        self.assertEqual(simulation.queue(0).holders(), ())

    def test_goes_on_as_the_resource_does(self):
        simulation = Simulation(FULL)
        simulation.advance(2)
        line = simulation.queue(0)
        self.assertEqual([line.release(1), line.holders(), line.waiting()], [5, ((0, 5),), ((1, 0),)])
        simulation.advance(10)
        self.assertEqual(simulation.queue(0).holders(), ((1, 0),))
        self.assertEqual(line.release(5), 0)
        self.assertEqual(line, simulation.queue(0))


class Wrong(Case):

    def test_numbers_that_do_not_exist(self):
        for steps in range(6):
            simulation = Simulation(FULL)
            for _ in range(steps):
                simulation.step()
            before = state(simulation)
            self.refused(simulation.status, -1, 6, *BEYOND, *NOT_INTEGERS)
            self.refused(simulation.left, -1, 6, *BEYOND, *NOT_INTEGERS)
            self.refused(simulation.queue, -1, 2, *BEYOND, *NOT_INTEGERS)
            self.refused(simulation.items, -1, 2, *BEYOND, *NOT_INTEGERS)
            self.refused(simulation.is_open, -1, 2, *BEYOND, *NOT_INTEGERS)
            self.refused(lambda value: peek(simulation, value), -1, 101, *BEYOND, *NOT_INTEGERS)
            self.assertEqual(state(simulation), before)

    def test_where_there_are_no_parts(self):
        simulation = Simulation(IDLE)
        for call in (simulation.queue, simulation.items, simulation.is_open):
            self.refused(call, 0, -1, 1)
        self.refused(simulation.status, 1, -1)

    def test_by_name(self):
        simulation = Simulation(SHOP)
        self.assertEqual(simulation.status(process=1), ("ready",))
        self.assertEqual(simulation.left(process=0), SHOP[3][0])
        self.assertEqual(peek(time=1, simulation=simulation), trace(SHOP, 1))


class Read(Case):

    def test_of_a_text(self):
        text = "resource fifo 1\nprocess\ntake 0 0\nwait 3\ngive 0\nprocess\nwait 1\ntake 0 0\nwait 2\ngive 0"
        simulation = Simulation.read(text)
        self.assertIs(simulation.__class__, Simulation)
        self.assertEqual(simulation, Simulation(SHOP))
        self.assertEqual((simulation.horizon, simulation.now), (100, 0))
        self.assertEqual(simulation.advance(100), trace(SHOP, 100))
        self.assertEqual(Simulation.read(text="process"), Simulation(IDLE))
        self.assertIsNot(Simulation.read(text), Simulation.read(text))

    def test_off_an_object(self):
        simulation = Simulation(SHOP, horizon=3)
        simulation.advance(2)
        self.assertEqual(simulation.read("process"), Simulation(IDLE))
        self.assertEqual(simulation.now, 2)

    def test_of_what_is_no_text(self):
        for value, line in (("", 0), ("process\nwait", 1), ("process\nrepeat 1\nwait 1", 3), (None, -1), (5, -1),
                            ("process\nforever\nwait 0\nend", 3), (SHOP, -1), ("process\n", 1)):
            with self.assertRaises(ParseError) as caught:
                Simulation.read(value)
            self.assertEqual(caught.exception.line, line)


if __name__ == "__main__":
    unittest.main()
