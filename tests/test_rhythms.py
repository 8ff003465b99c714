"""Point [70]: rhythm and pace."""

import unittest

from eventsim.errors import ModelError, NumberError
from eventsim.rhythms import is_rhythm, pace, rhythm
from eventsim.traces import situation, trace
from tests.samples import BELT, CROSS, IDLE, NO_MODELS, NOT_INTEGERS, SHOP, acts, made

TURNS = made(
    (("wait", 1), ("forever", acts("take 0 0, wait 2, give 0"))),
    (("forever", acts("take 0 0, wait 3, give 0")),),
    resources=(("fifo", 1),),
)


def loop(text, *further):
    """The instruction that executes these instructions for ever."""
    return ("forever", acts(text, *further))


class Case(unittest.TestCase):

    def check(self, model, expected):
        self.assertEqual(rhythm(model), expected)
        self.assertIs(rhythm(model).__class__, tuple)
        if expected != ("open",):
            self.assertIs(is_rhythm(model, expected), True)


class Ends(Case):

    def test_at_time_0(self):
        self.check(IDLE, ("ends", 0))
        self.check(made("mark 1, wait 0", "", "rouse 0"), ("ends", 0))

    def test_later(self):
        self.check(SHOP, ("ends", 5))
        self.check(BELT, ("ends", 4))
        self.check(made("wait 7", "wait 3, wait 9", "wait 1"), ("ends", 12))

    def test_at_time_200_and_beyond(self):
        self.check(made("wait 100, wait 100"), ("ends", 200))
        self.check(made("wait 100, wait 99"), ("ends", 199))
        self.check(made("wait 100, wait 101"), ("open",))
        self.check(made("wait 1", f"wait {10 ** 12 - 1}"), ("open",))

    def test_units_and_items_that_remain_do_not_matter(self):
        self.check(made("put 0 1, shut 0", stores=((2, (7,)),), gates=("open",)), ("ends", 0))


class Halts(Case):

    def test_example_of_section_6(self):
        self.check(CROSS, ("stuck", 1, (0, 1)))

    def test_at_time_0(self):
        self.check(made("pass 0", gates=("shut",)), ("stuck", 0, (0,)))
        self.check(made("", "get 0", "", "get 0", stores=((1, ()),)), ("stuck", 0, (1, 3)))

    def test_all_that_are_not_finished(self):
        model = made("wait 4", "pass 0", "put 0 1, put 0 2", "get 1", gates=("shut",), stores=((1, ()), (1, ())))
        self.check(model, ("stuck", 4, (1, 2, 3)))

    def test_only_when_the_agenda_is_empty(self):
        model = made("pass 0", (loop("wait 3"),), gates=("shut",))
        self.check(model, ("cycle", 0, 3, (0, 1)))

    def test_suspended_processes(self):
        model = made(
            "take 0 9, wait 5, give 0", "wait 1, take 0 0, pass 0, give 0", resources=(("preempt", 1),), gates=("shut",)
        )
        self.check(model, ("stuck", 1, (0, 1)))

    def test_at_time_200_and_beyond(self):
        self.check(made("wait 100, wait 100, pass 0", gates=("shut",)), ("stuck", 200, (0,)))
        self.check(made("pass 0", "wait 100, wait 100", gates=("shut",)), ("stuck", 200, (0,)))
        self.check(made("wait 100, wait 101, pass 0", gates=("shut",)), ("open",))

    def test_within_a_forever(self):
        self.check(made((loop("wait 5, get 0"),), stores=((2, (1, 2)),)), ("stuck", 15, (0,)))


class Cycles(Case):

    def test_example(self):
        self.check(TURNS, ("cycle", 1, 5, (1, 1)))
        self.assertEqual(pace(TURNS, 1), (1, 5))

    def test_of_one_process(self):
        self.check(made((loop("wait 1"),)), ("cycle", 0, 1, (1,)))
        self.check(made((loop("wait 3"),)), ("cycle", 0, 3, (1,)))
        self.check(made((loop("mark 1, wait 1, wait 2, mark 2"),)), ("cycle", 0, 3, (1,)))

    def test_the_least_start(self):
        self.check(made(acts("wait 4, mark 1", loop("wait 3"))), ("cycle", 4, 3, (1,)))
        # One time unit within the first sleep, or from its beginning on, all is as later in the cycle.
        self.check(made(acts("wait 4", loop("wait 3"))), ("cycle", 1, 3, (1,)))
        self.check(made(acts("wait 3", loop("wait 3"))), ("cycle", 0, 3, (1,)))
        self.check(made(acts("wait 2", loop("wait 3"))), ("cycle", 0, 3, (1,)))
        self.check(made("wait 9", (loop("wait 2"),)), ("cycle", 9, 2, (0, 1)))

    def test_the_least_period(self):
        self.check(made((loop("wait 1, wait 1"),)), ("cycle", 0, 2, (1,)))
        self.check(made((loop("wait 2"),), (loop("wait 3"),)), ("cycle", 0, 6, (3, 2)))
        self.check(made((loop("wait 4"),), (loop("wait 6"),)), ("cycle", 0, 12, (3, 2)))

    def test_the_order_of_the_agenda_counts(self):
        # After the times 0 and 4 both processes sleep alike, but the other one of them acts first at time 6.
        model = made((loop("wait 2, wait 1, wait 1"),), (loop("wait 2"),))
        self.assertEqual(situation(model, 0)[:4], situation(model, 4)[:4])
        self.assertNotEqual(situation(model, 0), situation(model, 4))
        self.check(model, ("cycle", 2, 4, (1, 2)))

    def test_start_and_period_at_200(self):
        self.check(made((loop("wait 100, wait 100"),)), ("cycle", 0, 200, (1,)))
        self.check(made(acts("wait 50, mark 1", loop("wait 75, wait 75"))), ("cycle", 50, 150, (1,)))
        self.check(made(acts("wait 99, wait 100", loop("wait 1"))), ("cycle", 198, 1, (1,)))
        self.check(made(acts("wait 99, wait 100", ("mark", 0), loop("wait 1, wait 0"))), ("cycle", 199, 1, (1,)))

    def test_beyond_200(self):
        self.check(made((loop("wait 100, wait 101"),)), ("open",))
        self.check(made(acts("wait 51, mark 1", loop("wait 75, wait 75"))), ("open",))
        self.check(made(acts("wait 100, wait 100", ("mark", 0), loop("wait 1, wait 0"))), ("open",))

    def test_periods_without_a_common_divisor(self):
        self.check(made((loop("wait 13"),), (loop("wait 15"),)), ("cycle", 0, 195, (15, 13)))
        self.check(made((loop("wait 13"),), (loop("wait 17"),)), ("open",))
        self.check(made(acts("wait 5, mark 1", loop("wait 13")), acts("wait 5", loop("wait 15"))),
                   ("cycle", 5, 195, (15, 13)))
        self.check(made(acts("wait 6, mark 1", loop("wait 13")), acts("wait 6", loop("wait 15"))), ("open",))

    def test_rounds_of_0(self):
        self.check(
            made((loop("wait 2"),), "", (loop("wait 1, get 0"),), "pass 0", (loop("pass 0, wait 1"),),
                 gates=("shut",), stores=((1, ()),)),
            ("cycle", 1, 2, (1, 0, 0, 0, 0)),
        )

    def test_a_round_that_begins_at_the_start_does_not_count_and_one_at_the_end_does(self):
        # The only rounds begin at the times 0, 4, 8, ..
        self.check(made((loop("wait 3, wait 1"),)), ("cycle", 0, 4, (1,)))
        # They begin at 1, 5, ..; the cycle starts when the first one begins.
        self.check(made(acts("wait 1, mark 1", loop("wait 4, wait 0"))), ("cycle", 1, 4, (1,)))
        # Process 1 begins at 2, 4, ..
        self.check(made(acts("wait 2, mark 1", loop("wait 4, wait 0")), (loop("wait 2"),)), ("cycle", 2, 4, (1, 2)))

    def test_a_body_that_begins_and_blocks(self):
        model = made((loop("get 0, wait 1"),), (loop("wait 5, put 0 1"),), stores=((1, ()),))
        self.check(model, ("cycle", 1, 5, (1, 1)))

    def test_rounds_with_repeats(self):
        model = made((loop("", ("repeat", 3, acts("wait 2")), ("mark", 1)),))
        self.check(model, ("cycle", 0, 6, (1,)))
        model = made((loop("", ("repeat", 5, acts("mark 1")), ("wait", 2)),), (loop("", ("repeat", 2, acts("wait 5"))),))
        self.check(model, ("cycle", 0, 10, (5, 1)))

    def test_great_waits(self):
        self.check(made((loop("wait 1"),), f"wait {10 ** 12 - 1}"), ("open",))
        great = ((), (), (), ((loop(f"wait {10 ** 3000}"),), ()))
        self.check(great, ("open",))


class FirstThatApplies(Case):

    def test_ends_before_stuck_and_both_before_a_cycle(self):
        # An empty agenda is the same after each later time, and yet no cycle.
        for model in (IDLE, SHOP, CROSS, made("pass 0", gates=("shut",))):
            self.assertIn(rhythm(model)[0], ("ends", "stuck"))

    def test_open(self):
        self.check(made("wait 300"), ("open",))
        self.check(made("wait 300", (loop("wait 7"),)), ("open",))

    def test_the_agenda_is_empty_from_then_on(self):
        for model in (SHOP, CROSS, BELT):
            time = rhythm(model)[1]
            self.assertEqual(situation(model, time)[4], ())
            self.assertTrue(time == 0 or situation(model, time - 1)[4])
            self.assertEqual(trace(model, time), trace(model, 200))


class Paces(unittest.TestCase):

    def test_reduced(self):
        model = made((loop("wait 4"),), (loop("wait 6"),), "")
        self.assertEqual([pace(model, process) for process in range(3)], [(1, 4), (1, 6), (0, 1)])
        model = made((loop("wait 1, wait 2"),), (loop("wait 2"),))
        self.assertEqual([pace(model, process) for process in range(2)], [(1, 3), (1, 2)])
        # Two items are put in each round of the one process, and one is got in each round of the other one.
        model = made((loop("", ("repeat", 2, acts("wait 1, put 0 1")), ("wait", 3)),), (loop("get 0, wait 0, wait 1"),),
                     stores=((1, ()),))
        self.assertEqual(rhythm(model)[2:], (5, (1, 2)))
        self.assertEqual([pace(model, process) for process in range(2)], [(1, 5), (2, 5)])

    def test_one(self):
        self.assertEqual(pace(made((loop("wait 1"),)), 0), (1, 1))

    def test_none(self):
        for model in (IDLE, SHOP, CROSS, made("wait 201"), made((loop("wait 201"),))):
            self.assertIsNone(pace(model, 0))

    def test_wrong_numbers(self):
        for model in (TURNS, SHOP, CROSS):
            for process in (-1, 2, 3, 10 ** 11, *NOT_INTEGERS):
                with self.assertRaises(NumberError) as caught:
                    pace(model, process)
                self.assertIs(caught.exception.__class__, NumberError)

    def test_no_models(self):
        for thing in NO_MODELS:
            for call in (lambda: rhythm(thing), lambda: pace(thing, -1), lambda: is_rhythm(thing, ("open",))):
                with self.assertRaises(ModelError) as caught:
                    call()
                self.assertIs(caught.exception.__class__, ModelError)


if __name__ == "__main__":
    unittest.main()
