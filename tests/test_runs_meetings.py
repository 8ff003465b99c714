"""Point [31]: stores, gates and rouse, by which processes meet."""

import unittest

from eventsim.traces import trace
from tests.samples import made, told


class Case(unittest.TestCase):

    def happens(self, model, *rows, horizon=50):
        self.assertEqual(told(trace(model, horizon)), list(rows))


class Puts(Case):

    def test_into_a_store_that_is_not_full(self):
        self.happens(
            made("put 0 99, put 0 0", stores=((2, ()),)),
            "0 0 put 0 99", "0 0 put 0 0", "0 0 end",
        )
        self.happens(made("put 1 5", stores=((1, (7,)), (2, (3,)))), "0 0 put 1 5", "0 0 end")

    def test_into_a_full_store(self):
        self.happens(made("put 0 5, mark 1", stores=((1, (7,)),)), "0 0 full 0")
        self.happens(
            made("put 0 5, put 0 6, put 0 7, put 0 8", stores=((4, (1, 2)),)),
            "0 0 put 0 5", "0 0 put 0 6", "0 0 full 0",
        )

    def test_somebody_waits_to_get(self):
        self.happens(
            made("get 0, mark 1", "put 0 5, mark 2", stores=((1, ()),)),
            "0 0 empty 0", "0 1 put 0 5", "0 0 got 0 5", "0 1 mark 2", "0 1 end", "0 0 mark 1", "0 0 end",
        )

    def test_the_item_for_one_who_waits_does_not_stay_in_the_store(self):
        self.happens(
            made("get 0, wait 1, get 0", "put 0 5", stores=((1, ()),)),
            "0 0 empty 0", "0 1 put 0 5", "0 0 got 0 5", "0 1 end", "0 0 sleep 1", "1 0 wake", "1 0 empty 0",
        )

    def test_those_who_wait_to_get_are_served_in_the_order_in_which_they_came(self):
        self.happens(
            made("wait 1, get 0", "get 0", "wait 2, put 0 5, put 0 6, put 0 7", stores=((1, ()),)),
            "0 0 sleep 1", "0 1 empty 0", "0 2 sleep 2", "1 0 wake", "1 0 empty 0",
            "2 2 wake", "2 2 put 0 5", "2 1 got 0 5", "2 2 put 0 6", "2 0 got 0 6", "2 2 put 0 7", "2 2 end",
            "2 1 end", "2 0 end",
        )

    def test_somebody_waits_at_another_store(self):
        self.happens(
            made("get 0", "put 1 5", stores=((1, ()), (1, ()))),
            "0 0 empty 0", "0 1 put 1 5", "0 1 end",
        )


class Gets(Case):

    def test_the_oldest_item(self):
        self.happens(
            made("get 0, put 0 9, get 0, get 0, get 0", stores=((3, (5, 6)),)),
            "0 0 got 0 5", "0 0 put 0 9", "0 0 got 0 6", "0 0 got 0 9", "0 0 empty 0",
        )

    def test_an_empty_store(self):
        self.happens(made("get 0, mark 1", stores=((1, ()),)), "0 0 empty 0")

    def test_somebody_waits_to_put(self):
        self.happens(
            made("put 0 5, mark 1", "get 0, mark 2", stores=((1, (7,)),)),
            "0 0 full 0", "0 1 got 0 7", "0 0 put 0 5", "0 1 mark 2", "0 1 end", "0 0 mark 1", "0 0 end",
        )

    def test_those_who_wait_to_put_are_served_in_the_order_in_which_they_came(self):
        self.happens(
            made("wait 1, put 0 5", "put 0 6", "wait 2, get 0, get 0, get 0, get 0, get 0", stores=((2, (7, 8)),)),
            "0 0 sleep 1", "0 1 full 0", "0 2 sleep 2", "1 0 wake", "1 0 full 0",
            "2 2 wake", "2 2 got 0 7", "2 1 put 0 6", "2 2 got 0 8", "2 0 put 0 5", "2 2 got 0 6", "2 2 got 0 5",
            "2 2 empty 0", "2 1 end", "2 0 end",
        )

    def test_one_get_lets_only_one_put(self):
        self.happens(
            made("put 0 1", "put 0 2", "get 0", stores=((1, (7,)),)),
            "0 0 full 0", "0 1 full 0", "0 2 got 0 7", "0 0 put 0 1", "0 2 end", "0 0 end",
        )

    def test_somebody_waits_at_another_store(self):
        self.happens(
            made("put 0 5", "get 1", stores=((1, (7,)), (1, (8,)))),
            "0 0 full 0", "0 1 got 1 8", "0 1 end",
        )

    def test_getting_again_behind_one_who_came_later(self):
        self.happens(
            made("get 0, get 0", "get 0", "put 0 5, put 0 6, put 0 7", stores=((1, ()),)),
            "0 0 empty 0", "0 1 empty 0", "0 2 put 0 5", "0 0 got 0 5", "0 2 put 0 6", "0 1 got 0 6",
            "0 2 put 0 7", "0 2 end", "0 0 got 0 7", "0 0 end", "0 1 end",
        )


class Gates(Case):

    def test_pass_an_open_gate(self):
        self.happens(made("pass 0, pass 0, mark 1", gates=("open",)),
                     "0 0 pass 0", "0 0 pass 0", "0 0 mark 1", "0 0 end")

    def test_pass_a_shut_gate(self):
        self.happens(made("pass 1, mark 1", gates=("open", "shut")), "0 0 closed 1")

    def test_open_with_nobody_waiting(self):
        self.happens(
            made("open 0, open 0, pass 0", gates=("shut",)),
            "0 0 open 0", "0 0 open 0", "0 0 pass 0", "0 0 end",
        )
        self.happens(made("pass 0", "open 1", gates=("shut", "shut")), "0 0 closed 0", "0 1 open 1", "0 1 end")

    def test_shut(self):
        self.happens(
            made("shut 0, shut 0, pass 0", gates=("open",)),
            "0 0 shut 0", "0 0 shut 0", "0 0 closed 0",
        )

    def test_shut_lets_nobody_continue(self):
        self.happens(made("pass 0", "shut 0", gates=("shut",)), "0 0 closed 0", "0 1 shut 0", "0 1 end")

    def test_open_with_several_waiting(self):
        self.happens(
            made("wait 1, pass 0, mark 1", "pass 0, mark 2", "wait 2, open 0, mark 3", "wait 1, pass 0",
                 gates=("shut",)),
            "0 0 sleep 1", "0 1 closed 0", "0 2 sleep 2", "0 3 sleep 1",
            "1 0 wake", "1 0 closed 0", "1 3 wake", "1 3 closed 0",
            "2 2 wake", "2 2 open 0", "2 1 pass 0", "2 0 pass 0", "2 3 pass 0", "2 2 mark 3", "2 2 end",
            "2 1 mark 2", "2 1 end", "2 0 mark 1", "2 0 end", "2 3 end",
        )

    def test_they_have_passed_even_if_the_gate_is_shut_again_at_the_same_time(self):
        self.happens(
            made("pass 0, pass 0", "wait 1, open 0, shut 0", gates=("shut",)),
            "0 0 closed 0", "0 1 sleep 1",
            "1 1 wake", "1 1 open 0", "1 0 pass 0", "1 1 shut 0", "1 1 end", "1 0 closed 0",
        )

    def test_those_who_passed_do_not_pass_again(self):
        self.happens(
            made("pass 0, mark 1", "wait 1, open 0, shut 0, open 0", gates=("shut",)),
            "0 0 closed 0", "0 1 sleep 1",
            "1 1 wake", "1 1 open 0", "1 0 pass 0", "1 1 shut 0", "1 1 open 0", "1 1 end", "1 0 mark 1", "1 0 end",
        )

    def test_gates_that_are_opened_stay_open(self):
        self.happens(
            made("open 0", "wait 5, pass 0, wait 1, pass 0", gates=("shut",)),
            "0 0 open 0", "0 0 end", "0 1 sleep 5", "5 1 wake", "5 1 pass 0", "5 1 sleep 1", "6 1 wake",
            "6 1 pass 0", "6 1 end",
        )


class Rouses(Case):

    def test_one_who_is_asleep(self):
        self.happens(
            made("wait 9, mark 1", "wait 2, rouse 0, mark 2"),
            "0 0 sleep 9", "0 1 sleep 2", "2 1 wake", "2 1 rouse 0", "2 1 mark 2", "2 1 end",
            "2 0 wake", "2 0 mark 1", "2 0 end",
        )

    def test_a_sleep_that_began_just_now(self):
        self.happens(
            made("wait 3", "rouse 0, mark 1"),
            "0 0 sleep 3", "0 1 mark 1", "0 1 end", "3 0 wake", "3 0 end",
        )
        self.happens(
            made("wait 2, wait 3", "wait 1, wait 1, rouse 0"),
            "0 0 sleep 2", "0 1 sleep 1", "1 1 wake", "1 1 sleep 1", "2 0 wake", "2 0 sleep 3", "2 1 wake", "2 1 end",
            "5 0 wake", "5 0 end",
        )

    def test_a_sleep_that_ends_now(self):
        # The entry of process 1 comes first, but the sleep of process 0 is over.
        self.happens(
            made("wait 1, wait 1", "wait 2, rouse 0"),
            "0 0 sleep 1", "0 1 sleep 2", "1 0 wake", "1 0 sleep 1", "2 1 wake", "2 1 end", "2 0 wake", "2 0 end",
        )

    def test_one_who_was_roused_now(self):
        self.happens(
            made("wait 9", "wait 2, rouse 0, rouse 0", "wait 2, rouse 0"),
            "0 0 sleep 9", "0 1 sleep 2", "0 2 sleep 2", "2 1 wake", "2 1 rouse 0", "2 1 end", "2 2 wake", "2 2 end",
            "2 0 wake", "2 0 end",
        )

    def test_a_further_sleep_can_be_roused_later(self):
        self.happens(
            made("wait 9, wait 9", "wait 2, rouse 0, wait 1, rouse 0"),
            "0 0 sleep 9", "0 1 sleep 2", "2 1 wake", "2 1 rouse 0", "2 1 sleep 1", "2 0 wake", "2 0 sleep 9",
            "3 1 wake", "3 1 rouse 0", "3 1 end", "3 0 wake", "3 0 end",
        )

    def test_oneself(self):
        self.happens(made("wait 1, rouse 0, mark 1"), "0 0 sleep 1", "1 0 wake", "1 0 mark 1", "1 0 end")

    def test_one_who_is_ready(self):
        self.happens(made("rouse 1, mark 1", "mark 2"), "0 0 mark 1", "0 0 end", "0 1 mark 2", "0 1 end")

    def test_one_who_is_finished(self):
        self.happens(made("", "wait 1, rouse 0"), "0 0 end", "0 1 sleep 1", "1 1 wake", "1 1 end")

    def test_those_who_are_blocked(self):
        self.happens(
            made("take 0 0, give 0", "put 0 1", "get 1", "pass 0", "take 0 0, pass 0, give 0",
                 "wait 1, rouse 0, rouse 1, rouse 2, rouse 3, rouse 4",
                 resources=(("fifo", 1),), stores=((1, (5,)), (1, ())), gates=("shut",)),
            "0 0 hold 0", "0 0 give 0", "0 0 end", "0 1 full 0", "0 2 empty 1", "0 3 closed 0", "0 4 hold 0",
            "0 4 closed 0", "0 5 sleep 1", "1 5 wake", "1 5 end",
        )
        self.happens(
            made("take 0 0, pass 0, give 0", "take 0 0, give 0", "wait 1, rouse 1",
                 resources=(("fifo", 1),), gates=("shut",)),
            "0 0 hold 0", "0 0 closed 0", "0 1 ask 0", "0 2 sleep 1", "1 2 wake", "1 2 end",
        )

    def test_one_who_is_suspended(self):
        self.happens(
            made("take 0 9, wait 9, give 0", "wait 1, take 0 0, wait 3, give 0", "wait 2, rouse 0",
                 resources=(("preempt", 1),)),
            "0 0 hold 0", "0 0 sleep 9", "0 1 sleep 1", "0 2 sleep 2",
            "1 1 wake", "1 0 lose 0", "1 1 hold 0", "1 1 sleep 3", "2 2 wake", "2 2 end",
            "4 1 wake", "4 1 give 0", "4 0 hold 0", "4 1 end", "12 0 wake", "12 0 give 0", "12 0 end",
        )

    def test_a_sleep_that_was_suspended_begins_again(self):
        # Process 0 is asleep again at time 4: too late for process 1 at time 4, not for process 2 at time 5.
        self.happens(
            made("take 0 9, wait 9, give 0", "wait 1, take 0 0, wait 3, give 0, rouse 0", "wait 5, rouse 0",
                 resources=(("preempt", 1),)),
            "0 0 hold 0", "0 0 sleep 9", "0 1 sleep 1", "0 2 sleep 5",
            "1 1 wake", "1 0 lose 0", "1 1 hold 0", "1 1 sleep 3",
            "4 1 wake", "4 1 give 0", "4 0 hold 0", "4 1 end",
            "5 2 wake", "5 2 rouse 0", "5 2 end", "5 0 wake", "5 0 give 0", "5 0 end",
        )

    def test_the_entry_of_the_sleep_does_not_act(self):
        self.happens(
            made("wait 3, wait 9", "wait 2, rouse 0"),
            "0 0 sleep 3", "0 1 sleep 2", "2 1 wake", "2 1 rouse 0", "2 1 end", "2 0 wake", "2 0 sleep 9",
            "11 0 wake", "11 0 end",
        )

    def test_whoever_is_roused_comes_behind_those_already_due(self):
        self.happens(
            made("wait 9, mark 1", "wait 2, rouse 0", "wait 2, mark 2"),
            "0 0 sleep 9", "0 1 sleep 2", "0 2 sleep 2", "2 1 wake", "2 1 rouse 0", "2 1 end",
            "2 2 wake", "2 2 mark 2", "2 2 end", "2 0 wake", "2 0 mark 1", "2 0 end",
        )

    def test_one_who_continues_behind_a_block_does_not_wake(self):
        self.happens(
            made("wait 1, pass 0, mark 1", "wait 3, open 0", gates=("shut",)),
            "0 0 sleep 1", "0 1 sleep 3", "1 0 wake", "1 0 closed 0", "3 1 wake", "3 1 open 0", "3 0 pass 0",
            "3 1 end", "3 0 mark 1", "3 0 end",
        )


if __name__ == "__main__":
    unittest.main()
