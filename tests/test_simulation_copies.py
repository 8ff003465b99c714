"""Point [80]: len and equality of simulations, copies, trials and peek."""

import contextlib
import inspect
import unittest

from eventsim.errors import NumberError
from eventsim.models import scaled
from eventsim.queues import Line
from eventsim.simulation import Simulation, peek
from eventsim.traces import trace
from tests.samples import BELT, CROSS, IDLE, NOT_INTEGERS, RICH, SHOP, made
from tests.test_simulation import FULL, state

BEYOND = (10 ** 11, -(10 ** 11))


def after(model, *operations, horizon=100):
    """A simulation to which the operations have been done: None is a step, a number an advance to this time."""
    simulation = Simulation(model, horizon=horizon)
    for operation in operations:
        if operation is None:
            simulation.step()
        else:
            simulation.advance(operation)
    return simulation


class Case(unittest.TestCase):

    def same(self, one, other):
        self.assertTrue(one == other)
        self.assertTrue(other == one)
        self.assertIs(one != other, False)
        self.assertIs(other != one, False)

    def differ(self, one, other):
        self.assertFalse(one == other)
        self.assertFalse(other == one)
        self.assertIs(one != other, True)
        self.assertIs(other != one, True)


class Equality(Case):

    def test_of_what_has_come_as_far(self):
        self.same(Simulation(SHOP), Simulation(SHOP))
        self.same(after(SHOP, 3), after(SHOP, 1, 2, 3))
        self.same(after(SHOP, 5), after(SHOP, None, None, None, None, None, None))
        self.same(after(SHOP, None, None), after(SHOP, 0))
        simulation = after(SHOP, 4)
        self.same(simulation, simulation)

    def test_models_as_values(self):
        self.same(Simulation(SHOP), Simulation(tuple([tuple(part) for part in SHOP])))
        self.differ(Simulation(SHOP), Simulation(scaled(SHOP, 2)))
        # The events are the same, the models are not.
        self.differ(Simulation(made("wait 0")), Simulation(IDLE))

    def test_horizons(self):
        self.differ(Simulation(SHOP), Simulation(SHOP, horizon=99))
        one = Simulation(SHOP, horizon=20)
        one.horizon = 100
        self.same(one, Simulation(SHOP))

    def test_present_times(self):
        # The same entries have been removed, and the agenda is empty.
        self.differ(after(SHOP, 5), after(SHOP, 6))
        self.differ(after(SHOP, 0), after(SHOP, None))
        self.differ(after(made("wait 9"), 3), after(made("wait 9"), 4))
        self.same(after(SHOP, 5, 6), after(SHOP, 6))

    def test_entries(self):
        # The time is 3 in each of them.
        self.differ(after(SHOP, 2, None), after(SHOP, 3))
        self.differ(after(SHOP, None), Simulation(SHOP))
        self.differ(after(SHOP, None), after(SHOP, None, None))
        self.same(after(SHOP, 2, None, 3), after(SHOP, 3))

    def test_nothing_else_is_equal(self):
        for value in (None, 0, 13, (), SHOP, [], {}, "Simulation(2 processes, time 0)", Line(1), Simulation):
            self.differ(Simulation(SHOP), value)
        self.differ(after(SHOP, None), after(SHOP, None).queue(0))

    def test_steps_after_the_end_make_no_difference(self):
        self.same(after(SHOP, *[None] * 6), after(SHOP, *[None] * 9))
        self.same(after(IDLE, None), after(IDLE, None, None))


class Length(Case):

    def test_events_so_far(self):
        for model in (SHOP, BELT, CROSS, RICH, FULL, IDLE):
            simulation = Simulation(model)
            self.assertEqual(len(simulation), 0)
            for time in (0, 1, 2, 3, 5, 9):
                simulation.advance(time)
                self.assertEqual(len(simulation), len(trace(model, time)))

    def test_counts_what_happens_to_others_too(self):
        simulation = Simulation(made("open 0", "pass 0", gates=("shut",)))
        simulation.step()
        self.assertEqual(len(simulation), 2)
        simulation = Simulation(made("wait 1, open 0", "pass 0", "pass 0", gates=("shut",)))
        simulation.advance(0)
        self.assertEqual(len(simulation), 3)
        self.assertEqual(len(simulation.step()), 5)
        self.assertEqual(len(simulation), 8)


class Copies(Case):

    def test_equal_and_in_the_same_state(self):
        for model in (SHOP, BELT, CROSS, RICH, FULL, IDLE):
            for operations in ((), (None,), (None, None, None), (0,), (1,), (2, None), (3, 7), (20,)):
                simulation = after(model, *operations, horizon=30)
                twin = simulation.copy()
                self.assertIs(twin.__class__, Simulation)
                self.assertIsNot(twin, simulation)
                self.same(twin, simulation)
                self.assertEqual(state(twin), state(simulation))
                self.assertEqual(twin.advance(30), simulation.advance(30))
                self.assertEqual(state(twin), state(simulation))

    def test_later_operations_do_not_affect_the_other(self):
        for model in (SHOP, BELT, CROSS, RICH, FULL):
            for operations in ((), (None, None), (1,), (2, None)):
                simulation = after(model, *operations)
                before = state(simulation)
                twin = simulation.copy()
                twin.advance(30)
                twin.horizon = 60
                self.assertEqual(state(simulation), before)
                twin = simulation.copy()
                simulation.advance(30)
                simulation.horizon = 60
                self.assertEqual(state(twin), before)
                self.differ(twin, simulation)

    def test_step_by_step_in_turns(self):
        one = after(FULL, 0)
        other = one.copy()
        while one.next_time is not None:
            before = state(other)
            rows = one.step()
            self.assertEqual(state(other), before)
            self.assertEqual(other.step(), rows)
            self.same(one, other)

    def test_of_a_copy(self):
        simulation = after(SHOP, 1)
        twin = simulation.copy().copy()
        self.same(twin, simulation)
        twin.step()
        self.differ(twin, simulation)

    def test_generators_go_on_with_their_own(self):
        simulation = Simulation(SHOP)
        rows = simulation.events()
        next(rows)
        twin = simulation.copy()
        list(rows)
        self.assertEqual((len(simulation), len(twin)), (13, 2))


class Trials(Case):

    def test_left_normally(self):
        for model in (SHOP, BELT, CROSS, RICH, FULL):
            for operations in ((), (None,), (1,), (2, None)):
                simulation = after(model, *operations, horizon=50)
                before, twin = state(simulation), simulation.copy()
                with simulation.trial() as held:
                    self.assertIs(held, simulation)
                    self.assertEqual(state(simulation), before)
                    held.step()
                    held.advance(40)
                    held.horizon = 45
                self.assertEqual(state(simulation), before)
                self.same(simulation, twin)
                self.assertEqual(simulation.advance(50), twin.advance(50))

    def test_left_by_an_exception(self):
        simulation = after(SHOP, 1)
        before = state(simulation)
        for error in (KeyError("a"), NumberError("b"), StopIteration(), KeyboardInterrupt()):
            with self.assertRaises(error.__class__) as caught:
                with simulation.trial() as held:
                    held.advance(9)
                    held.set_horizon(10)
                    raise error
            self.assertIs(caught.exception, error)
            self.assertEqual(state(simulation), before)

    def test_what_is_refused_within(self):
        simulation = after(SHOP, 1)
        with self.assertRaises(NumberError):
            with simulation.trial():
                simulation.advance(4)
                simulation.advance(3)
        self.assertEqual((simulation.now, len(simulation)), (1, 5))

    def test_left_by_return_and_break(self):
        simulation = Simulation(SHOP)

        def leave():
            with simulation.trial():
                return simulation.advance(5)

        self.assertEqual(leave(), trace(SHOP, 5))
        self.assertEqual(len(simulation), 0)
        for time in (1, 2):
            with simulation.trial():
                simulation.advance(time)
                break
        self.assertEqual(simulation.now, 0)

    def test_one_within_another(self):
        simulation = after(SHOP, 1, horizon=20)
        first = state(simulation)
        with simulation.trial() as outer:
            simulation.advance(3)
            simulation.horizon = 30
            second = state(simulation)
            with outer.trial() as inner:
                self.assertIs(inner, simulation)
                self.assertEqual(state(simulation), second)
                inner.advance(25)
                with inner.trial():
                    inner.horizon = 200
                    inner.advance(199)
                self.assertEqual((simulation.now, simulation.horizon), (25, 30))
            self.assertEqual(state(simulation), second)
            simulation.advance(5)
        self.assertEqual(state(simulation), first)

    def test_an_inner_one_left_by_an_exception(self):
        simulation = after(SHOP, 1)
        with simulation.trial():
            simulation.step()
            with contextlib.suppress(KeyError):
                with simulation.trial():
                    simulation.advance(50)
                    raise KeyError
            self.assertEqual((simulation.now, len(simulation)), (3, 9))
        self.assertEqual((simulation.now, len(simulation)), (1, 5))

    def test_one_manager_again_after_its_block(self):
        simulation = Simulation(SHOP)
        manager = simulation.trial()
        for time in (1, 3, 4):
            simulation.advance(time)
            before = state(simulation)
            with manager as held:
                self.assertIs(held, simulation)
                held.advance(5)
            self.assertEqual(state(simulation), before)

    def test_entering_counts_and_not_making(self):
        simulation = Simulation(SHOP)
        manager = simulation.trial()
        simulation.advance(3)
        with manager:
            simulation.advance(9)
        self.assertEqual(simulation.now, 3)

    def test_several_managers_on_one_row(self):
        one, other = Simulation(SHOP), Simulation(BELT)
        with one.trial() as first, other.trial() as second:
            first.advance(2)
            second.advance(3)
        self.assertEqual((one, other), (Simulation(SHOP), Simulation(BELT)))

    def test_after_a_block_the_simulation_goes_on(self):
        simulation = Simulation(FULL)
        for time in range(0, 30, 2):
            with simulation.trial():
                simulation.advance(time + 9)
            expected = tuple(row for row in trace(FULL, time) if row[0] > time - 2)
            self.assertEqual(simulation.advance(time), expected)
        self.assertEqual(len(simulation), len(trace(FULL, 28)))

    def test_copies_made_within_stay(self):
        simulation = Simulation(SHOP)
        with simulation.trial():
            simulation.advance(3)
            twin = simulation.copy()
        self.assertEqual((twin.now, len(twin)), (3, 10))
        self.assertEqual(twin.advance(5), trace(SHOP, 5)[10:])
        self.assertEqual(simulation.now, 0)

    def test_a_generator_goes_on_with_the_simulation_as_it_was(self):
        simulation = Simulation(SHOP)
        rows = simulation.events()
        first = [next(rows), next(rows)]
        with simulation.trial():
            simulation.advance(60)
        self.assertEqual(tuple(first) + tuple(rows), trace(SHOP, 100))


class Peeks(Case):

    def test_what_advance_would_return(self):
        for model in (SHOP, BELT, CROSS, RICH, FULL, IDLE):
            for operations in ((), (None,), (None, None), (1,), (2, None), (6,)):
                for time in (10, 11, 20, 50):
                    simulation = after(model, *operations, horizon=50)
                    rows = peek(simulation, time)
                    self.assertIs(rows.__class__, tuple)
                    self.assertEqual(rows, simulation.advance(time))

    def test_changes_nothing(self):
        for model in (SHOP, BELT, CROSS, RICH, FULL, IDLE):
            simulation = after(model, 1, None)
            before, twin = state(simulation), simulation.copy()
            first = peek(simulation, 50)
            self.assertEqual(peek(simulation, 50), first)
            self.assertEqual(peek(simulation, simulation.now), peek(twin, simulation.now))
            self.assertEqual(state(simulation), before)
            self.same(simulation, twin)

    def test_to_now_and_to_the_horizon(self):
        simulation = after(SHOP, 2, None, horizon=5)
        self.assertEqual(peek(simulation, 3), ((3, 1, "sleep", 2),))
        self.assertEqual(len(peek(simulation, 5)), 4)
        self.assertEqual(peek(after(SHOP, 3), 3), ())

    def test_beyond_either(self):
        simulation = after(SHOP, 3, horizon=30)
        before = state(simulation)
        for time in (-1, 0, 2, 31, 200, 201, *BEYOND, *NOT_INTEGERS):
            with self.assertRaises(NumberError) as caught:
                peek(simulation, time)
            self.assertIs(caught.exception.__class__, NumberError)
        self.assertEqual(state(simulation), before)

    def test_within_a_trial(self):
        simulation = Simulation(SHOP)
        with simulation.trial():
            simulation.advance(1)
            self.assertEqual(peek(simulation, 3), trace(SHOP, 3)[5:])
            self.assertEqual(simulation.now, 1)

    def test_is_a_function_of_its_module(self):
        self.assertEqual(peek.__module__, "eventsim.simulation")
        self.assertTrue(inspect.isfunction(peek))


if __name__ == "__main__":
    unittest.main()
