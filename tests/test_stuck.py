"""Points [60], [61]: who can provide, and stuck sets."""

import itertools
import unittest

from eventsim.errors import ModelError, NumberError
from eventsim.stuck import first_stuck, is_stuck, largest_stuck, providers
from eventsim.traces import situation, trace
from tests.samples import BELT, CROSS, IDLE, NOT_INTEGERS, NO_MODELS, NO_TIMES, RICH, SHOP, acts, made

# Two pairs that are stuck, one behind them that is stuck too, and one that is not.
PAIRS = made(
    "take 0 0, wait 1, take 1 0, give 1, give 0",
    "take 1 0, wait 1, take 0 0, give 0, give 1",
    "wait 3, pass 0, open 1",
    "wait 4, pass 1, open 0",
    "wait 5, take 0 0, give 0",
    "wait 150",
    resources=(("fifo", 1), ("fifo", 1)), gates=("shut", "shut"),
)


class Providers(unittest.TestCase):

    def test_example(self):
        self.assertEqual(providers(CROSS, 1, 0), (1,))
        self.assertEqual(providers(CROSS, 1, 1), (0,))

    def test_who_does_not_wait(self):
        for time in range(6):
            self.assertEqual(providers(SHOP, time, 0), ())
        self.assertEqual(providers(SHOP, 0, 1), ())
        self.assertEqual(providers(SHOP, 5, 1), ())
        self.assertEqual(providers(IDLE, 0, 0), ())
        self.assertEqual(providers(CROSS, 0, 0), ())

    def test_wants(self):
        self.assertEqual(providers(SHOP, 1, 1), (0,))
        model = made("take 0 0, give 0", "take 0 0, wait 9, give 0", "take 1 0, wait 9, give 1",
                     "take 0 0, wait 9, give 0", "take 0 0, give 0", "take 0 0, give 0",
                     resources=(("rank", 2), ("fifo", 1)))
        # Those who only want it, or who have given it, cannot provide it; nor can those who hold another one.
        for process in (4, 5):
            self.assertEqual(providers(model, 0, process), (1, 3))

    def test_wants_what_holders_hold_that_wait_themselves(self):
        model = made("take 0 0, pass 0, give 0", "take 0 0, give 0", resources=(("fifo", 1),), gates=("shut",))
        self.assertEqual(providers(model, 0, 1), (0,))
        self.assertEqual(providers(model, 0, 0), ())

    def test_wants_what_the_process_itself_holds(self):
        model = made("take 0 0, take 0 0, give 0, give 0", "wait 2, take 0 0, give 0", resources=(("fifo", 1),))
        self.assertEqual(providers(model, 0, 0), (0,))
        self.assertEqual(providers(model, 2, 1), (0,))
        both = made("take 0 0, take 0 0, wait 1, take 0 0, give 0, give 0, give 0", "take 0 0, wait 9, give 0",
                    resources=(("fifo", 3),))
        self.assertEqual(providers(both, 1, 0), (0, 1))

    def test_suspended(self):
        model = made("take 0 9, wait 9, give 0", "wait 1, take 0 0, wait 3, give 0", resources=(("preempt", 1),))
        self.assertEqual(providers(model, 0, 0), ())
        for time in (1, 2, 3):
            self.assertEqual(providers(model, time, 0), (1,))
        self.assertEqual(providers(model, 4, 0), ())

    def test_suspended_while_it_holds_a_further_unit(self):
        model = made("take 0 9, take 0 1, wait 9, give 0, give 0", "wait 1, take 0 5, wait 3, give 0",
                     resources=(("preempt", 2),))
        self.assertEqual(providers(model, 1, 0), (0, 1))

    def test_empty(self):
        model = made("get 0, put 0 1", "wait 9, put 0 1", "wait 9, put 1 1", "wait 9, get 0", "put 0 5, wait 9", "wait 2",
                     stores=((1, ()), (1, ())))
        # Process 0 is served at time 0 by process 4, which then has no further put.
        self.assertEqual(providers(model, 0, 0), ())
        model = made("get 0, put 0 1", "wait 9, put 0 1", "wait 9, put 1 1", "wait 9, get 0", "put 1 5, wait 9", "wait 2",
                     stores=((1, ()), (1, ())))
        self.assertEqual(providers(model, 0, 0), (0, 1))
        self.assertEqual(providers(model, 9, 0), ())

    def test_any_item_does(self):
        model = made("get 0", "wait 9, put 0 99", "wait 9, put 0 0", stores=((4, ()),))
        self.assertEqual(providers(model, 0, 0), (1, 2))

    def test_full(self):
        model = made("put 0 7, get 0", "wait 9, get 0", "wait 9, get 1", "wait 9, put 0 7", "get 1, wait 9",
                     stores=((1, (1,)), (1, (1,))))
        self.assertEqual(providers(model, 0, 0), (0, 1))

    def test_closed(self):
        model = made("pass 0, open 0", "wait 9, open 0", "wait 9, open 1", "wait 9, shut 0", "wait 9, pass 0",
                     gates=("shut", "shut"))
        self.assertEqual(providers(model, 0, 0), (0, 1))

    def test_only_what_is_left_counts(self):
        model = made("wait 3, pass 0", "open 0, wait 1, shut 0, wait 5, open 1, wait 3, open 0, wait 8, open 1",
                     gates=("shut", "shut"))
        self.assertEqual(providers(model, 3, 0), (1,))
        shut = made("wait 3, pass 0", "open 0, wait 1, shut 0, wait 5, open 1, wait 8, open 1", gates=("shut", "shut"))
        self.assertEqual(providers(shut, 3, 0), ())

    def waits_for_1(self, *script):
        """The providers of one who waits at a shut gate, with another process that has this script."""
        return providers(made("pass 0", (("wait", 1), *script), gates=("shut", "shut")), 0, 0)

    def test_in_bodies(self):
        inner = acts("open 0")
        other = acts("mark 0")
        self.assertEqual(self.waits_for_1(("repeat", 1, inner)), (1,))
        self.assertEqual(self.waits_for_1(("repeat", 5, inner)), (1,))
        self.assertEqual(self.waits_for_1(("repeat", 1, other)), ())
        self.assertEqual(self.waits_for_1(("forever", acts("wait 1, open 0"))), (1,))
        self.assertEqual(self.waits_for_1(("forever", acts("wait 1, open 1"))), ())
        self.assertEqual(self.waits_for_1(("repeat", 2, (("repeat", 3, other + inner),))), (1,))
        self.assertEqual(self.waits_for_1(("repeat", 2, other), ("repeat", 3, other), ("open", 0)), (1,))
        self.assertEqual(self.waits_for_1(("repeat", 2, other), ("repeat", 3, inner)), (1,))
        self.assertEqual(self.waits_for_1(("repeat", 1, (("repeat", 1, (("repeat", 1, inner),)),))), (1,))
        self.assertEqual(
            self.waits_for_1(("forever", (("wait", 1), ("repeat", 1, (("repeat", 1, inner),))))), (1,),
        )

    def test_a_body_that_is_executed_no_times_does_not_count(self):
        inner = acts("open 0")
        self.assertEqual(self.waits_for_1(("repeat", 0, inner)), ())
        self.assertEqual(self.waits_for_1(("repeat", 0, (("repeat", 5, inner),))), ())
        self.assertEqual(self.waits_for_1(("repeat", 5, (("repeat", 0, inner),))), ())
        self.assertEqual(self.waits_for_1(("forever", (("wait", 1), ("repeat", 0, inner)))), ())
        self.assertEqual(self.waits_for_1(("repeat", 0, inner), ("open", 0)), (1,))
        self.assertEqual(self.waits_for_1(("repeat", 0, inner), ("repeat", 1, inner)), (1,))

    def test_puts_and_gets_in_bodies(self):
        body = ("forever", (("wait", 1), ("repeat", 2, acts("put 0 5, mark 1"))))
        self.assertEqual(providers(made("get 0", (("wait", 9), body), stores=((1, ()),)), 0, 0), (1,))
        body = ("repeat", 2, acts("get 0, mark 1"))
        self.assertEqual(providers(made("put 0 5", (("wait", 9), body), stores=((1, (5,)),)), 0, 0), (1,))
        body = ("repeat", 0, acts("get 0, mark 1"))
        self.assertEqual(providers(made("put 0 5", (("wait", 9), body), stores=((1, (5,)),)), 0, 0), ())

    def test_a_body_in_progress(self):
        model = made((("repeat", 2, acts("wait 1, open 1, wait 4")),), "pass 0", "pass 1", gates=("shut", "shut"))
        self.assertEqual(providers(model, 0, 2), (0,))
        self.assertEqual(providers(model, 0, 1), ())
        last = made((("repeat", 2, acts("open 0, wait 4")),), "wait 1, shut 0, pass 0", gates=("shut",))
        self.assertEqual(providers(last, 3, 1), (0,))
        self.assertEqual(providers(made(last[3][0], "wait 5, shut 0, pass 0", gates=("shut",)), 5, 1), ())

    def test_the_process_itself_by_an_instruction_in_a_body(self):
        model = made((("pass", 0), ("repeat", 1, acts("open 0"))), gates=("shut",))
        self.assertEqual(providers(model, 0, 0), (0,))
        model = made((("forever", acts("wait 1, get 0, put 0 1")),), stores=((1, ()),))
        self.assertEqual(providers(model, 1, 0), (0,))


class Stuck(unittest.TestCase):

    def test_example(self):
        self.assertEqual(first_stuck(CROSS, 50), (1, (0, 1)))
        self.assertIs(is_stuck(CROSS, 1, (0, 1)), True)
        self.assertIs(is_stuck(CROSS, 1, (0,)), False)

    def test_the_empty_tuple(self):
        for model in (SHOP, BELT, CROSS, IDLE, RICH, PAIRS):
            for time in (0, 1, 200):
                self.assertIs(is_stuck(model, time, ()), True)

    def test_members_must_wait(self):
        self.assertIs(is_stuck(CROSS, 0, (0, 1)), False)
        self.assertIs(is_stuck(CROSS, 0, (0,)), False)
        self.assertIs(is_stuck(IDLE, 0, (0,)), False)
        self.assertIs(is_stuck(PAIRS, 5, (0, 1, 5)), False)

    def test_all_sets_of_a_model(self):
        self.assertEqual(self.sets(PAIRS, 0), [()])
        self.assertEqual(self.sets(PAIRS, 1), [(), (0, 1)])
        self.assertEqual(self.sets(PAIRS, 3), [(), (0, 1)])
        self.assertEqual(self.sets(PAIRS, 4), [(), (0, 1), (2, 3), (0, 1, 2, 3)])
        for time in (5, 200):
            self.assertEqual(
                self.sets(PAIRS, time),
                [(), (0, 1), (2, 3), (0, 1, 4), (0, 1, 2, 3), (0, 1, 2, 3, 4)],
            )

    def sets(self, model, time):
        tuples = [members for size in range(7) for members in itertools.combinations(range(6), size)]
        return [members for members in tuples if is_stuck(model, time, members)]

    def test_one_who_waits_for_nobody(self):
        model = made("pass 0", "wait 3", gates=("shut",))
        self.assertIs(is_stuck(model, 0, (0,)), True)
        self.assertEqual(largest_stuck(model, 0), (0,))
        self.assertEqual(first_stuck(model, 200), (0, (0,)))

    def test_one_who_waits_for_itself(self):
        model = made("wait 2, take 0 0, take 0 0, give 0, give 0", "wait 100", resources=(("rank", 1),))
        self.assertIs(is_stuck(model, 2, (0,)), True)
        self.assertEqual(first_stuck(model, 200), (2, (0,)))

    def test_the_largest(self):
        self.assertEqual(largest_stuck(PAIRS, 0), ())
        self.assertEqual(largest_stuck(PAIRS, 2), (0, 1))
        self.assertEqual(largest_stuck(PAIRS, 4), (0, 1, 2, 3))
        self.assertEqual(largest_stuck(PAIRS, 5), (0, 1, 2, 3, 4))
        self.assertEqual(largest_stuck(PAIRS, 200), (0, 1, 2, 3, 4))
        self.assertEqual(largest_stuck(SHOP, 1), ())
        self.assertEqual(largest_stuck(IDLE, 0), ())

    def test_a_chain_that_ends_with_one_who_does_not_wait(self):
        model = made("take 0 0, wait 9, give 0", "take 1 0, take 0 0, give 0, give 1", "take 2 0, take 1 0, give 1, give 2",
                     "take 2 0, give 2", resources=(("fifo", 1),) * 3)
        self.assertEqual(largest_stuck(model, 0), ())
        self.assertIsNone(first_stuck(model, 200))
        self.assertIs(is_stuck(model, 0, (1, 2, 3)), False)

    def test_a_chain_that_ends_with_one_who_waits_for_ever(self):
        model = made("take 0 0, pass 0, give 0", "take 1 0, take 0 0, give 0, give 1",
                     "take 2 0, take 1 0, give 1, give 2", "take 2 0, give 2",
                     resources=(("fifo", 1),) * 3, gates=("shut",))
        self.assertEqual(largest_stuck(model, 0), (0, 1, 2, 3))
        for members in ((0,), (0, 1), (0, 1, 2), (0, 1, 2, 3)):
            self.assertIs(is_stuck(model, 0, members), True)
        for members in ((1,), (0, 2), (1, 2, 3), (0, 3)):
            self.assertIs(is_stuck(model, 0, members), False)

    def test_each_of_several_providers_must_be_a_member(self):
        model = made("pass 0", "pass 1, open 0", "wait 5, open 0", gates=("shut", "shut"))
        self.assertEqual(largest_stuck(model, 0), (1,))
        self.assertEqual(largest_stuck(made("pass 0", "pass 1, open 0", "pass 1, open 0", gates=("shut", "shut")), 0),
                         (0, 1, 2))

    def test_first(self):
        self.assertEqual(first_stuck(PAIRS, 200), (1, (0, 1)))
        self.assertEqual(first_stuck(PAIRS, 1), (1, (0, 1)))
        self.assertIsNone(first_stuck(PAIRS, 0))
        self.assertIsNone(first_stuck(SHOP, 200))
        self.assertIsNone(first_stuck(IDLE, 0))
        self.assertEqual(first_stuck(BELT, 0), None)
        late = made("wait 200, pass 0", gates=("shut",))
        self.assertEqual(first_stuck(late, 200), (200, (0,)))
        self.assertIsNone(first_stuck(late, 199))
        two = made("wait 2, pass 0", "wait 2, get 0", "wait 3, get 0", stores=((1, ()),), gates=("shut",))
        self.assertEqual(first_stuck(two, 200), (2, (0, 1)))

    def test_first_as_a_body_comes_to_its_last_pass(self):
        model = made((("repeat", 3, acts("open 0, shut 0, wait 2")),), (("forever", acts("pass 0, wait 1")),),
                     gates=("shut",))
        # The last pass begins at time 4; process 1 then waits again from time 5 on.
        self.assertEqual(first_stuck(model, 200), (5, (1,)))


class AnyValue(unittest.TestCase):

    def test_what_is_no_tuple_of_processes(self):
        for thing in (
            None, True, False, 0, 1, -1, "", "01", "0", [], [0, 1], {}, {0: 1}, {0: 0, 1: 1}, ((0, 1),), ([0, 1],),
            (0, (1,)), ("0", "1"), (0, None), (None,), (0, "1"), ((),), ((), ()), ([],), ({},),
        ):
            self.assertIs(is_stuck(CROSS, 1, thing), False, thing)

    def test_bools_are_no_numbers(self):
        for thing in ((False, True), (0, True), (False, 1)):
            self.assertIs(is_stuck(CROSS, 1, thing), False)

    def test_order(self):
        self.assertIs(is_stuck(CROSS, 1, (1, 0)), False)
        self.assertIs(is_stuck(CROSS, 1, (0, 0)), False)
        self.assertIs(is_stuck(CROSS, 1, (0, 0, 1)), False)
        self.assertIs(is_stuck(CROSS, 1, (0, 1, 1)), False)
        self.assertIs(is_stuck(CROSS, 1, (0, 1, 0)), False)
        self.assertIs(is_stuck(PAIRS, 5, (2, 3, 0, 1)), False)
        self.assertIs(is_stuck(PAIRS, 5, (0, 2, 1, 3)), False)

    def test_processes_that_do_not_exist(self):
        for thing in ((2,), (0, 1, 2), (-1, 0, 1), (-2, -1), (-1,), (0, 1, 10 ** 11), (0, 1) + tuple(range(2, 2000))):
            self.assertIs(is_stuck(CROSS, 1, thing), False, thing)

    def test_a_situation(self):
        view = situation(CROSS, 1)
        self.assertIs(is_stuck(CROSS, 1, view), False)
        self.assertIs(is_stuck(CROSS, 1, view[0]), False)

    def test_results_are_bools(self):
        for thing in ((), (0, 1), (0,), None, 5):
            self.assertIn(is_stuck(CROSS, 1, thing).__class__, (bool,))


class LaterTimes(unittest.TestCase):

    def test_stuck_sets_stay(self):
        for model in (CROSS, PAIRS):
            for time in range(8):
                found = largest_stuck(model, time)
                for later in (time + 1, time + 2, 50, 200):
                    self.assertIs(is_stuck(model, later, found), True)
                self.assertEqual([row for row in trace(model, 200) if row[0] > time and row[1] in found], [])

    def test_an_empty_agenda(self):
        for model, time, expected in ((CROSS, 1, (0, 1)), (SHOP, 5, ()), (BELT, 4, ()), (PAIRS, 150, (0, 1, 2, 3, 4))):
            self.assertEqual(situation(model, time)[4], ())
            self.assertEqual(largest_stuck(model, time), expected)


class WrongArguments(unittest.TestCase):

    def fails(self, error, function, *arguments):
        with self.assertRaises(error) as caught:
            function(*arguments)
        self.assertIs(caught.exception.__class__, error)

    def test_models(self):
        for thing in NO_MODELS:
            self.fails(ModelError, providers, thing, -1, -1)
            self.fails(ModelError, largest_stuck, thing, -1)
            self.fails(ModelError, is_stuck, thing, -1, ())
            self.fails(ModelError, first_stuck, thing, -1)

    def test_times(self):
        for thing in NO_TIMES:
            self.fails(NumberError, providers, SHOP, thing, 0)
            self.fails(NumberError, providers, SHOP, thing, 7)
            self.fails(NumberError, largest_stuck, SHOP, thing)
            self.fails(NumberError, is_stuck, SHOP, thing, ())
            self.fails(NumberError, is_stuck, SHOP, thing, None)
            self.fails(NumberError, first_stuck, SHOP, thing)
            self.fails(NumberError, first_stuck, CROSS, thing)

    def test_processes(self):
        for thing in (-1, 2, 3, 5, 6, 10 ** 11, *NOT_INTEGERS):
            self.fails(NumberError, providers, SHOP, 0, thing)

    def test_names(self):
        self.assertEqual(providers(process=1, time=1, model=CROSS), (0,))
        self.assertEqual(is_stuck(thing=(0, 1), time=1, model=CROSS), True)
        self.assertEqual(largest_stuck(time=1, model=CROSS), (0, 1))
        self.assertEqual(first_stuck(horizon=1, model=CROSS), (1, (0, 1)))


if __name__ == "__main__":
    unittest.main()
