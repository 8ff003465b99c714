"""Points [50], [51], [52]: waits, lengths, holds, busy, flow and marks."""

import unittest

from eventsim.errors import ModelError, NumberError
from eventsim.measures import area, busy, flow, holds, lengths, marks, total_wait, waits
from tests.samples import BELT, CROSS, IDLE, NOT_INTEGERS, NO_MODELS, NO_TIMES, SHOP, acts, made

# Process 0 loses the unit from time 1 to 3, and again from 5 to 6.
LOSER = made(
    "take 0 9, wait 6, give 0",
    "wait 1, take 0 0, wait 2, give 0",
    "wait 5, take 0 0, wait 1, give 0",
    resources=(("preempt", 1),),
)
# Process 0 holds two units, and loses the one with the rank 9, which it took first.
TWO = made(
    "take 0 9, wait 1, take 0 2, wait 4, give 0, wait 1, give 0",
    "wait 2, take 0 5, wait 1, give 0",
    resources=(("preempt", 2),),
)
# Much at time 2: two processes ask, then process 2 gives and asks again, then process 0 holds and gives.
RUSH = made(
    "wait 2, take 0 0, give 0",
    "wait 2, take 0 0, wait 1, give 0",
    "take 0 0, wait 2, give 0, take 0 0, wait 2, give 0",
    resources=(("fifo", 1),),
)
STAYS = made("take 0 0, pass 0, give 0", "wait 3, take 0 0, give 0", resources=(("fifo", 1),), gates=("shut",))


class Waits(unittest.TestCase):

    def test_example(self):
        self.assertEqual(waits(SHOP, 0, 10), ((1, 1, 3),))

    def test_none(self):
        self.assertEqual(waits(made("take 0 0, wait 1, give 0", resources=(("fifo", 1),)), 0, 200), ())
        self.assertEqual(waits(made("", resources=(("fifo", 1),)), 0, 200), ())

    def test_ends_at_the_horizon(self):
        self.assertEqual(waits(SHOP, 0, 0), ())
        self.assertEqual(waits(SHOP, 0, 1), ((1, 1, 1),))
        self.assertEqual(waits(SHOP, 0, 2), ((1, 1, 2),))
        self.assertEqual(waits(SHOP, 0, 3), ((1, 1, 3),))
        self.assertEqual(waits(SHOP, 0, 4), ((1, 1, 3),))
        self.assertEqual(waits(SHOP, 0, 200), ((1, 1, 3),))

    def test_never_ends(self):
        for horizon in (3, 4, 100, 200):
            self.assertEqual(waits(STAYS, 0, horizon), ((1, 3, horizon),))
            self.assertEqual(waits(CROSS, 0, horizon), ((1, 1, horizon),))
            self.assertEqual(waits(CROSS, 1, horizon), ((0, 1, horizon),))

    def test_those_who_lost_a_unit_wait(self):
        self.assertEqual(waits(LOSER, 0, 20), ((0, 1, 3), (0, 5, 6)))
        self.assertEqual(waits(LOSER, 0, 5), ((0, 1, 3), (0, 5, 5)))
        self.assertEqual(waits(LOSER, 0, 2), ((0, 1, 2),))

    def test_a_wait_of_no_time(self):
        self.assertEqual(waits(RUSH, 0, 1), ())
        self.assertEqual(waits(RUSH, 0, 2), ((0, 2, 2), (1, 2, 2), (2, 2, 2)))
        self.assertEqual(waits(RUSH, 0, 9), ((0, 2, 2), (1, 2, 2), (2, 2, 3)))

    def test_in_the_order_of_their_beginnings(self):
        model = made("take 0 0, wait 5, give 0", "wait 1, take 0 9, give 0", "wait 2, take 0 1, give 0",
                     "wait 3, take 0 5, give 0", resources=(("rank", 1),))
        self.assertEqual(waits(model, 0, 4), ((1, 1, 4), (2, 2, 4), (3, 3, 4)))
        self.assertEqual(waits(model, 0, 9), ((1, 1, 5), (2, 2, 5), (3, 3, 5)))

    def test_each_wait_ends_with_its_own_hold(self):
        model = made("take 0 0, wait 2, give 0, wait 1, take 0 0, wait 2, give 0",
                     (("repeat", 2, acts("take 0 0, wait 2, give 0")),),
                     resources=(("fifo", 1),))
        self.assertEqual(waits(model, 0, 20), ((1, 0, 2), (0, 3, 4), (1, 4, 6)))

    def test_only_this_resource(self):
        model = made("take 0 0, take 1 0, wait 2, give 1, wait 3, give 0", "take 0 0, give 0", "take 1 0, give 1",
                     resources=(("fifo", 1), ("rank", 1)))
        self.assertEqual(waits(model, 0, 20), ((1, 0, 5),))
        self.assertEqual(waits(model, 1, 20), ((2, 0, 2),))

    def test_waits_at_stores_and_gates_with_the_same_number_do_not_count(self):
        model = made("get 0", "put 0 1, put 0 1, put 0 1", "pass 0", "wait 3, open 0",
                     resources=(("fifo", 1),), stores=((1, ()),), gates=("shut",))
        self.assertEqual(waits(model, 0, 20), ())


class Lengths(unittest.TestCase):

    def test_example(self):
        self.assertEqual(lengths(SHOP, 0, 10), ((0, 0), (1, 1), (3, 0)))

    def test_horizons(self):
        self.assertEqual(lengths(SHOP, 0, 0), ((0, 0),))
        self.assertEqual(lengths(SHOP, 0, 1), ((0, 0), (1, 1)))
        self.assertEqual(lengths(SHOP, 0, 2), ((0, 0), (1, 1)))
        self.assertEqual(lengths(SHOP, 0, 3), ((0, 0), (1, 1), (3, 0)))
        self.assertEqual(lengths(SHOP, 0, 200), ((0, 0), (1, 1), (3, 0)))

    def test_at_time_0(self):
        model = made("take 0 0, wait 2, give 0", "take 0 0, wait 3, give 0", "take 0 0, give 0",
                     resources=(("fifo", 1),))
        self.assertEqual(lengths(model, 0, 0), ((0, 2),))
        self.assertEqual(lengths(model, 0, 9), ((0, 2), (2, 1), (5, 0)))

    def test_several_changes_at_one_time(self):
        self.assertEqual(lengths(RUSH, 0, 9), ((0, 0), (2, 1), (3, 0)))

    def test_changes_at_one_time_that_cancel(self):
        model = made("take 0 0, wait 2, give 0", "take 0 0, wait 9, give 0", "wait 2, take 0 0, give 0",
                     resources=(("fifo", 1),))
        self.assertEqual(lengths(model, 0, 5), ((0, 1),))

    def test_those_who_lost_a_unit_count(self):
        self.assertEqual(lengths(LOSER, 0, 20), ((0, 0), (1, 1), (3, 0), (5, 1), (6, 0)))

    def test_nobody_ever_waits(self):
        self.assertEqual(lengths(made("", resources=(("rank", 3),)), 0, 200), ((0, 0),))

    def test_only_this_resource(self):
        self.assertEqual(lengths(CROSS, 0, 9), ((0, 0), (1, 1)))
        model = made("take 1 0, wait 2, give 1", "take 1 0, give 1", resources=(("fifo", 1), ("fifo", 1)))
        self.assertEqual(lengths(model, 0, 9), ((0, 0),))
        self.assertEqual(lengths(model, 1, 9), ((0, 1), (2, 0)))


class Sums(unittest.TestCase):

    def test_example(self):
        self.assertEqual([total_wait(SHOP, 0, 10), area(SHOP, 0, 10)], [2, 2])

    def check(self, model, horizon, expected, resource=0):
        self.assertEqual(total_wait(model, resource, horizon), expected)
        self.assertEqual(area(model, resource, horizon), expected)

    def test_horizons(self):
        for horizon, expected in ((0, 0), (1, 0), (2, 1), (3, 2), (4, 2), (200, 2)):
            self.check(SHOP, horizon, expected)

    def test_waits_that_never_end(self):
        self.check(STAYS, 3, 0)
        self.check(STAYS, 200, 197)
        self.check(CROSS, 200, 199, resource=0)
        self.check(CROSS, 200, 199, resource=1)

    def test_suspensions(self):
        self.check(LOSER, 20, 3)
        self.check(LOSER, 2, 1)
        self.check(TWO, 20, 1)

    def test_several_at_once(self):
        self.check(RUSH, 2, 0)
        self.check(RUSH, 9, 1)
        crowd = made(*["take 0 0, wait 2, give 0"] * 6, resources=(("rank", 2),))
        self.check(crowd, 0, 0)
        self.check(crowd, 1, 4)
        self.check(crowd, 3, 10)
        self.check(crowd, 9, 12)


class Holds(unittest.TestCase):

    def test_example(self):
        self.assertEqual(holds(SHOP, 0, 10), ((0, 0, 3), (1, 3, 5)))

    def test_horizons(self):
        self.assertEqual(holds(SHOP, 0, 0), ((0, 0, 0),))
        self.assertEqual(holds(SHOP, 0, 1), ((0, 0, 1),))
        self.assertEqual(holds(SHOP, 0, 3), ((0, 0, 3), (1, 3, 3)))
        self.assertEqual(holds(SHOP, 0, 4), ((0, 0, 3), (1, 3, 4)))
        self.assertEqual(holds(SHOP, 0, 200), ((0, 0, 3), (1, 3, 5)))

    def test_held_to_the_end(self):
        for horizon in (0, 3, 200):
            self.assertEqual(holds(STAYS, 0, horizon), ((0, 0, horizon),))
            self.assertEqual(holds(CROSS, 1, horizon), ((1, 0, horizon),))

    def test_much_at_one_time(self):
        self.assertEqual(holds(RUSH, 0, 9), ((2, 0, 2), (0, 2, 2), (1, 2, 3), (2, 3, 5)))
        self.assertEqual(holds(RUSH, 0, 2), ((2, 0, 2), (0, 2, 2), (1, 2, 2)))

    def test_given_at_once(self):
        model = made("take 0 0, give 0, take 0 0, give 0, wait 2, take 0 0, give 0", resources=(("rank", 1),))
        self.assertEqual(holds(model, 0, 9), ((0, 0, 0), (0, 0, 0), (0, 2, 2)))

    def test_lost_and_held_again(self):
        self.assertEqual(
            holds(LOSER, 0, 20),
            ((0, 0, 1), (1, 1, 3), (0, 3, 5), (2, 5, 6), (0, 6, 9)),
        )
        self.assertEqual(holds(LOSER, 0, 4), ((0, 0, 1), (1, 1, 3), (0, 3, 4)))

    def test_two_requests_of_one_process(self):
        # The later request is given first.
        model = made("take 0 5, wait 1, take 0 5, wait 2, give 0, wait 4, give 0", resources=(("fifo", 2),))
        self.assertEqual(holds(model, 0, 20), ((0, 0, 7), (0, 1, 3)))
        self.assertEqual(holds(model, 0, 2), ((0, 0, 2), (0, 1, 2)))
        self.assertEqual(holds(model, 0, 5), ((0, 0, 5), (0, 1, 3)))

    def test_two_requests_of_which_the_first_one_is_lost(self):
        # Held from 0 to 2 and from 3 on: the request of rank 9. The give at time 6 ends the other one.
        self.assertEqual(holds(TWO, 0, 20), ((0, 0, 2), (0, 1, 6), (1, 2, 3), (0, 3, 7)))

    def test_two_requests_of_which_the_second_one_is_lost(self):
        model = made("take 0 2, wait 1, take 0 9, wait 4, give 0, wait 1, give 0",
                     "wait 2, take 0 5, wait 1, give 0", resources=(("preempt", 2),))
        self.assertEqual(holds(model, 0, 20), ((0, 0, 7), (0, 1, 2), (1, 2, 3), (0, 3, 6)))

    def test_two_requests_of_one_rank_of_which_the_later_one_is_lost(self):
        model = made("take 0 9, wait 1, take 0 9, wait 4, give 0, wait 1, give 0",
                     "wait 2, take 0 5, wait 1, give 0", resources=(("preempt", 2),))
        self.assertEqual(holds(model, 0, 20), ((0, 0, 7), (0, 1, 2), (1, 2, 3), (0, 3, 6)))

    def test_three_requests_of_which_the_middle_one_is_lost(self):
        model = made("take 0 5, take 0 9, take 0 1, wait 3, give 0, wait 1, give 0, wait 1, give 0",
                     "wait 1, take 0 2, wait 1, give 0", resources=(("preempt", 3),))
        self.assertEqual(
            holds(model, 0, 20),
            ((0, 0, 6), (0, 0, 1), (0, 0, 4), (1, 1, 2), (0, 2, 5)),
        )

    def test_a_second_request_that_had_to_wait(self):
        model = made("wait 1, take 0 1, take 0 1, wait 2, give 0, wait 1, give 0", "take 0 9, wait 3, give 0",
                     resources=(("fifo", 2),))
        self.assertEqual(holds(model, 0, 20), ((1, 0, 3), (0, 1, 6), (0, 3, 5)))

    def test_ranks_in_repeats_within_forever(self):
        # The ranks of the takes are 9, 1, 9, 1, 9, 1, ..: the first of both requests is the one that is lost.
        pair = acts("take 0 9, take 0 1, wait 2, give 0, wait 1, give 0")
        model = made((("forever", (("repeat", 2, pair),)),), "wait 10, take 0 5, wait 5, give 0",
                     resources=(("preempt", 2),))
        self.assertEqual(
            holds(model, 0, 16)[6:],
            ((0, 9, 10), (0, 9, 16), (1, 10, 15), (0, 15, 16)),
        )

    def test_in_the_order_of_their_events(self):
        model = made("wait 1, take 0 0, wait 1, give 0", "take 0 0, wait 9, give 0", "take 0 0, give 0",
                     resources=(("fifo", 2),))
        self.assertEqual(holds(model, 0, 20), ((1, 0, 9), (2, 0, 0), (0, 1, 2)))

    def test_only_this_resource(self):
        model = made("take 1 0, take 0 0, wait 2, give 0, wait 3, give 1", resources=(("fifo", 1), ("rank", 1)))
        self.assertEqual(holds(model, 0, 20), ((0, 0, 2),))
        self.assertEqual(holds(model, 1, 20), ((0, 0, 5),))

    def test_stores_and_gates_with_the_same_number_do_not_count(self):
        model = made("put 0 1, get 0, get 0", "pass 0", "rouse 0, mark 0",
                     resources=(("fifo", 1),), stores=((1, ()),), gates=("open",))
        self.assertEqual(holds(model, 0, 20), ())


class Busy(unittest.TestCase):

    def test_example(self):
        self.assertEqual(busy(SHOP, 0, 10), (1, 2))

    def test_reduced(self):
        for horizon, expected in ((1, (1, 1)), (4, (1, 1)), (5, (1, 1)), (6, (5, 6)), (15, (1, 3)), (200, (1, 40))):
            self.assertEqual(busy(SHOP, 0, horizon), expected)

    def test_0(self):
        for horizon in (1, 2, 100, 200):
            self.assertEqual(busy(made("", resources=(("fifo", 3),)), 0, horizon), (0, 1))
        self.assertEqual(busy(made("wait 5, take 0 0, wait 1, give 0", resources=(("fifo", 1),)), 0, 5), (0, 1))

    def test_several_units(self):
        self.assertEqual(busy(TWO, 0, 20), (3, 10))
        crowd = made(*["take 0 0, wait 2, give 0"] * 5, resources=(("rank", 3),))
        self.assertEqual(busy(crowd, 0, 4), (5, 6))
        self.assertEqual(busy(crowd, 0, 2), (1, 1))

    def test_a_unit_that_changes_hands(self):
        self.assertEqual(busy(LOSER, 0, 9), (1, 1))
        self.assertEqual(busy(LOSER, 0, 10), (9, 10))


class Flow(unittest.TestCase):

    def test_example(self):
        self.assertEqual(flow(BELT, 0, 10), ((7, 8), (7,)))

    def test_horizons(self):
        for horizon in (0, 1, 3):
            self.assertEqual(flow(BELT, 0, horizon), ((7,), ()))
        for horizon in (4, 200):
            self.assertEqual(flow(BELT, 0, horizon), ((7, 8), (7,)))

    def test_none(self):
        self.assertEqual(flow(made("", stores=((2, (5,)),)), 0, 200), ((), ()))

    def test_initial_items_are_not_put(self):
        model = made("get 0, get 0, put 0 9, get 0", stores=((2, (5, 6)),))
        self.assertEqual(flow(model, 0, 0), ((9,), (5, 6, 9)))

    def test_items_of_those_who_waited(self):
        model = made("put 0 1, mark 0", "put 0 2", "wait 1, get 0", "wait 2, get 0, get 0, get 0", "wait 3, put 0 3",
                     stores=((1, (0,)),))
        self.assertEqual(flow(model, 0, 0), ((), ()))
        self.assertEqual(flow(model, 0, 1), ((1,), (0,)))
        self.assertEqual(flow(model, 0, 2), ((1, 2), (0, 1, 2)))
        self.assertEqual(flow(model, 0, 3), ((1, 2, 3), (0, 1, 2, 3)))

    def test_only_this_store(self):
        model = made("put 0 1, put 1 2, get 0, put 0 3", stores=((1, ()), (2, ())),
                     resources=(("fifo", 1),), gates=("open",))
        self.assertEqual(flow(model, 0, 9), ((1, 3), (1,)))
        self.assertEqual(flow(model, 1, 9), ((2,), ()))


class Marks(unittest.TestCase):

    MODEL = made("mark 0, wait 2, mark 999, mark 0", (("repeat", 2, acts("mark 0, wait 1")),), "wait 1, mark 7")

    def test_each_number(self):
        self.assertEqual(marks(self.MODEL, 0, 9), ((0, 0), (0, 1), (1, 1), (2, 0)))
        self.assertEqual(marks(self.MODEL, 999, 9), ((2, 0),))
        self.assertEqual(marks(self.MODEL, 7, 9), ((1, 2),))

    def test_horizons(self):
        self.assertEqual(marks(self.MODEL, 0, 0), ((0, 0), (0, 1)))
        self.assertEqual(marks(self.MODEL, 0, 1), ((0, 0), (0, 1), (1, 1)))
        self.assertEqual(marks(self.MODEL, 999, 1), ())
        self.assertEqual(marks(self.MODEL, 999, 200), ((2, 0),))

    def test_a_number_that_does_not_occur(self):
        for number in (1, 2, 8, 500, 998):
            self.assertEqual(marks(self.MODEL, number, 200), ())
        self.assertEqual(marks(IDLE, 0, 200), ())

    def test_other_events_with_this_number_do_not_count(self):
        model = made("take 0 0, put 0 0, wait 1, give 0", resources=(("fifo", 1),), stores=((1, ()),))
        self.assertEqual(marks(model, 0, 9), ())
        self.assertEqual(marks(model, 1, 9), ())


PARTS = made("take 0 0, wait 1, give 0", resources=(("fifo", 1),) * 2, stores=((1, ()),) * 2)


class WrongArguments(unittest.TestCase):

    MEASURES = (
        (waits, "resource"), (lengths, "resource"), (total_wait, "resource"), (area, "resource"),
        (holds, "resource"), (busy, "resource"), (flow, "store"), (marks, "number"),
    )

    def fails(self, error, function, *arguments):
        with self.assertRaises(error) as caught:
            function(*arguments)
        self.assertIs(caught.exception.__class__, error)

    def test_models(self):
        for function, _ in self.MEASURES:
            for thing in NO_MODELS:
                self.fails(ModelError, function, thing, 0, 5)
                self.fails(ModelError, function, thing, -1, -1)

    def test_second_arguments(self):
        for function, name in self.MEASURES:
            beyond = 1000 if name == "number" else 2
            for thing in (-1, beyond, beyond + 1, 10 ** 11, *NOT_INTEGERS):
                self.fails(NumberError, function, PARTS, thing, 5)
                self.fails(NumberError, function, PARTS, thing, 500)
            function(PARTS, beyond - 1, 5)

    def test_parts_that_a_model_does_not_have(self):
        for function, name in self.MEASURES:
            if name != "number":
                for thing in (-1, 0, 1):
                    self.fails(NumberError, function, IDLE, thing, 5)

    def test_horizons(self):
        for function, _ in self.MEASURES:
            for thing in NO_TIMES:
                self.fails(NumberError, function, PARTS, 0, thing)
            function(PARTS, 0, 1)
            function(PARTS, 0, 200)

    def test_horizon_0(self):
        self.fails(NumberError, busy, PARTS, 0, 0)
        for function, _ in self.MEASURES:
            if function is not busy:
                function(PARTS, 0, 0)

    def test_names(self):
        for function, name in self.MEASURES:
            self.assertEqual(
                function(**{"horizon": 7, name: 0, "model": PARTS}),
                function(PARTS, 0, 7),
            )


if __name__ == "__main__":
    unittest.main()
