"""Points [30], [31]: waits, marks, units and what becomes of those who wait for them."""

import unittest

from eventsim.traces import trace
from tests.samples import acts, made, told

DISCIPLINES = ("fifo", "rank", "preempt")


class Case(unittest.TestCase):

    def happens(self, model, *rows, horizon=50):
        self.assertEqual(told(trace(model, horizon)), list(rows))


class Waits(Case):

    def test_empty_script(self):
        self.assertEqual(trace(made(""), 0), ((0, 0, "end"),))

    def test_wait_0_is_no_event(self):
        self.happens(made("wait 0"), "0 0 end", horizon=0)
        self.happens(made("mark 1, wait 0, wait 0, mark 2"), "0 0 mark 1", "0 0 mark 2", "0 0 end", horizon=0)

    def test_wait_0_does_not_let_others_go_first(self):
        self.happens(
            made("mark 1, wait 0, mark 2", "mark 3"),
            "0 0 mark 1", "0 0 mark 2", "0 0 end", "0 1 mark 3", "0 1 end",
        )

    def test_longer_waits(self):
        self.happens(made("wait 1"), "0 0 sleep 1", "1 0 wake", "1 0 end")
        self.happens(
            made("wait 3, mark 5, wait 2, wait 100"),
            "0 0 sleep 3", "3 0 wake", "3 0 mark 5", "3 0 sleep 2", "5 0 wake", "5 0 sleep 100",
        )

    def test_mark(self):
        self.assertEqual(
            trace(made("mark 0, wait 2, mark 999"), 9),
            ((0, 0, "mark", 0), (0, 0, "sleep", 2), (2, 0, "wake"), (2, 0, "mark", 999), (2, 0, "end")),
        )


class TakesOfFreeUnits(Case):

    def test_one_unit(self):
        for discipline in DISCIPLINES:
            self.happens(
                made("take 0 9, mark 1, give 0", resources=((discipline, 1),)),
                "0 0 hold 0", "0 0 mark 1", "0 0 give 0", "0 0 end",
            )

    def test_as_many_as_there_are(self):
        for discipline in DISCIPLINES:
            model = made("take 1 9, wait 2, give 1", "take 1 0, wait 2, give 1", "take 1 0, give 1",
                         resources=(("fifo", 1), (discipline, 3)))
            self.happens(
                model,
                "0 0 hold 1", "0 0 sleep 2", "0 1 hold 1", "0 1 sleep 2", "0 2 hold 1", "0 2 give 1", "0 2 end",
                horizon=1,
            )

    def test_a_free_unit_comes_before_a_victim(self):
        self.happens(
            made("take 0 9, wait 9, give 0", "take 0 0, wait 9, give 0", resources=(("preempt", 2),)),
            "0 0 hold 0", "0 0 sleep 9", "0 1 hold 0", "0 1 sleep 9",
            horizon=5,
        )

    def test_two_units_of_one_resource_held_by_one_process(self):
        for discipline in DISCIPLINES:
            self.happens(
                made("take 0 4, take 0 2, wait 1, give 0, wait 1, give 0", "take 0 9, give 0",
                     resources=((discipline, 2),)),
                "0 0 hold 0", "0 0 hold 0", "0 0 sleep 1", "0 1 ask 0",
                "1 0 wake", "1 0 give 0", "1 1 hold 0", "1 0 sleep 1", "1 1 give 0", "1 1 end",
                "2 0 wake", "2 0 give 0", "2 0 end",
            )


class TakesOfOtherUnits(Case):

    def take_at_1(self, discipline, first, second):
        return made(f"take 0 {first}, wait 4, give 0", f"wait 1, take 0 {second}, wait 2, give 0",
                    resources=((discipline, 1),))

    def asks(self, model):
        self.happens(
            model,
            "0 0 hold 0", "0 0 sleep 4", "0 1 sleep 1", "1 1 wake", "1 1 ask 0",
            "4 0 wake", "4 0 give 0", "4 1 hold 0", "4 0 end", "4 1 sleep 2", "6 1 wake", "6 1 give 0", "6 1 end",
        )

    def test_no_victim_in_lines_without_preemption(self):
        self.asks(self.take_at_1("fifo", 9, 0))
        self.asks(self.take_at_1("rank", 9, 0))

    def test_no_victim_of_equal_or_lesser_rank(self):
        self.asks(self.take_at_1("preempt", 5, 5))
        self.asks(self.take_at_1("preempt", 5, 6))
        self.asks(self.take_at_1("preempt", 0, 9))

    def test_a_victim_that_sleeps(self):
        self.happens(
            self.take_at_1("preempt", 5, 4),
            "0 0 hold 0", "0 0 sleep 4", "0 1 sleep 1",
            "1 1 wake", "1 0 lose 0", "1 1 hold 0", "1 1 sleep 2",
            "3 1 wake", "3 1 give 0", "3 0 hold 0", "3 1 end",
            "6 0 wake", "6 0 give 0", "6 0 end",
        )

    def test_a_victim_that_fell_asleep_now(self):
        self.happens(
            made("take 0 1, wait 4, give 0", "take 0 0, wait 2, give 0", resources=(("preempt", 1),)),
            "0 0 hold 0", "0 0 sleep 4", "0 0 lose 0", "0 1 hold 0", "0 1 sleep 2",
            "2 1 wake", "2 1 give 0", "2 0 hold 0", "2 1 end",
            "6 0 wake", "6 0 give 0", "6 0 end",
        )

    def test_no_victim_that_is_blocked(self):
        self.happens(
            made("take 0 9, pass 0, give 0", "take 0 0, give 0", "wait 1, open 0",
                 resources=(("preempt", 1),), gates=("shut",)),
            "0 0 hold 0", "0 0 closed 0", "0 1 ask 0", "0 2 sleep 1",
            "1 2 wake", "1 2 open 0", "1 0 pass 0", "1 2 end", "1 0 give 0", "1 1 hold 0", "1 0 end",
            "1 1 give 0", "1 1 end",
        )

    def test_no_victim_that_is_ready_as_its_sleep_ends_now(self):
        # Both entries at time 2: the one of process 1 was made first.
        self.happens(
            made("wait 1, take 0 9, wait 1, give 0", "wait 2, take 0 0, give 0", resources=(("preempt", 1),)),
            "0 0 sleep 1", "0 1 sleep 2", "1 0 wake", "1 0 hold 0", "1 0 sleep 1",
            "2 1 wake", "2 1 ask 0", "2 0 wake", "2 0 give 0", "2 1 hold 0", "2 0 end", "2 1 give 0", "2 1 end",
        )

    def test_no_victim_that_is_ready_as_it_was_roused(self):
        self.happens(
            made("take 0 9, wait 8, give 0", "wait 1, rouse 0, take 0 0, give 0", resources=(("preempt", 1),)),
            "0 0 hold 0", "0 0 sleep 8", "0 1 sleep 1", "1 1 wake", "1 1 rouse 0", "1 1 ask 0",
            "1 0 wake", "1 0 give 0", "1 1 hold 0", "1 0 end", "1 1 give 0", "1 1 end",
        )

    def test_no_victim_that_is_ready_as_it_is_scheduled(self):
        self.happens(
            made("take 0 9, pass 0, wait 3, give 0", "wait 1, open 0, take 0 0, give 0",
                 resources=(("preempt", 1),), gates=("shut",)),
            "0 0 hold 0", "0 0 closed 0", "0 1 sleep 1",
            "1 1 wake", "1 1 open 0", "1 0 pass 0", "1 1 ask 0", "1 0 sleep 3",
            "4 0 wake", "4 0 give 0", "4 1 hold 0", "4 0 end", "4 1 give 0", "4 1 end",
        )

    def test_no_victim_that_is_suspended(self):
        self.happens(
            made("take 0 9, take 1 9, wait 9, give 1, give 0", "wait 1, take 0 0, wait 3, give 0",
                 "wait 2, take 1 0, give 1", resources=(("preempt", 1), ("preempt", 1))),
            "0 0 hold 0", "0 0 hold 1", "0 0 sleep 9", "0 1 sleep 1", "0 2 sleep 2",
            "1 1 wake", "1 0 lose 0", "1 1 hold 0", "1 1 sleep 3",
            "2 2 wake", "2 2 ask 1",
            "4 1 wake", "4 1 give 0", "4 0 hold 0", "4 1 end",
            "12 0 wake", "12 0 give 1", "12 2 hold 1", "12 0 give 0", "12 0 end", "12 2 give 1", "12 2 end",
        )

    def test_no_victim_that_is_the_process_itself(self):
        for discipline in DISCIPLINES:
            self.happens(
                made("take 0 9, take 0 0, give 0, give 0", resources=((discipline, 1),)),
                "0 0 hold 0", "0 0 ask 0",
            )

    def test_the_victim_is_asleep_again_and_can_lose_the_unit_again(self):
        self.happens(
            made("take 0 9, wait 9, give 0", "wait 1, take 0 5, wait 1, give 0", "wait 4, take 0 5, wait 1, give 0",
                 resources=(("preempt", 1),)),
            "0 0 hold 0", "0 0 sleep 9", "0 1 sleep 1", "0 2 sleep 4",
            "1 1 wake", "1 0 lose 0", "1 1 hold 0", "1 1 sleep 1",
            "2 1 wake", "2 1 give 0", "2 0 hold 0", "2 1 end",
            "4 2 wake", "4 0 lose 0", "4 2 hold 0", "4 2 sleep 1",
            "5 2 wake", "5 2 give 0", "5 0 hold 0", "5 2 end",
            "11 0 wake", "11 0 give 0", "11 0 end",
        )


class SeveralVictims(Case):

    def loser(self, first, second, third, rank=2):
        model = made(first, second, third, f"wait 1, take 0 {rank}, give 0",
                     resources=(("preempt", 3),), gates=("shut",))
        return " and ".join([row for row in told(trace(model, 1)) if " lose " in row])

    def test_the_greatest_rank(self):
        self.assertEqual(
            self.loser("take 0 5, wait 9, give 0", "take 0 7, wait 9, give 0", "take 0 6, wait 9, give 0"),
            "1 1 lose 0",
        )

    def test_of_several_the_greatest_number(self):
        self.assertEqual(
            self.loser("take 0 7, wait 9, give 0", "take 0 7, wait 9, give 0", "take 0 6, wait 9, give 0"),
            "1 1 lose 0",
        )
        # The request of process 0 is the latest one.
        self.assertEqual(
            self.loser("wait 1, take 0 7, wait 9, give 0", "take 0 7, wait 9, give 0", "take 0 6, wait 9, give 0"),
            "1 0 lose 0",
        )

    def test_only_those_asleep(self):
        self.assertEqual(
            self.loser("take 0 4, wait 9, give 0", "take 0 9, pass 0, give 0", "take 0 3, wait 9, give 0"),
            "1 0 lose 0",
        )
        self.assertEqual(
            self.loser("take 0 9, wait 1, wait 9, give 0", "take 0 8, wait 9, give 0", "take 0 9, pass 0, give 0"),
            "1 0 lose 0",
        )

    def test_only_those_of_greater_rank(self):
        self.assertEqual(
            self.loser("take 0 4, wait 9, give 0", "take 0 4, wait 9, give 0", "take 0 5, wait 9, give 0", rank=4),
            "1 2 lose 0",
        )


class Gives(Case):

    def test_nobody_waits(self):
        self.happens(
            made("take 0 0, give 0, take 0 0, give 0", resources=(("preempt", 1),)),
            "0 0 hold 0", "0 0 give 0", "0 0 hold 0", "0 0 give 0", "0 0 end",
        )

    def test_somebody_waits_for_another_resource(self):
        self.happens(
            made("take 0 0, take 1 0, give 1, wait 1, give 0", "take 0 0, give 0",
                 resources=(("fifo", 1), ("fifo", 1))),
            "0 0 hold 0", "0 0 hold 1", "0 0 give 1", "0 0 sleep 1", "0 1 ask 0",
            "1 0 wake", "1 0 give 0", "1 1 hold 0", "1 0 end", "1 1 give 0", "1 1 end",
        )

    def served(self, discipline):
        """The order in which four processes with the ranks 5, 3, 5, 3 are served."""
        model = made("take 0 0, wait 1, give 0", *[f"take 0 {rank}, give 0" for rank in (5, 3, 5, 3)],
                     resources=((discipline, 1),))
        return [row[1] for row in trace(model, 1) if row[0] == 1 and row[2] == "hold"]

    def test_the_first_one_in_the_line(self):
        self.assertEqual(self.served("fifo"), [1, 2, 3, 4])
        self.assertEqual(self.served("rank"), [2, 4, 1, 3])
        self.assertEqual(self.served("preempt"), [2, 4, 1, 3])

    def test_the_giver_continues_first(self):
        self.happens(
            made("take 0 0, wait 1, give 0, mark 1", "take 0 0, mark 2, give 0", "wait 1, mark 3",
                 resources=(("fifo", 1),)),
            "0 0 hold 0", "0 0 sleep 1", "0 1 ask 0", "0 2 sleep 1",
            "1 0 wake", "1 0 give 0", "1 1 hold 0", "1 0 mark 1", "1 0 end",
            "1 2 wake", "1 2 mark 3", "1 2 end", "1 1 mark 2", "1 1 give 0", "1 1 end",
        )

    def test_the_giver_may_ask_again_at_once(self):
        self.happens(
            made("take 0 0, wait 1, give 0, take 0 0, give 0", "take 0 0, give 0", resources=(("rank", 1),)),
            "0 0 hold 0", "0 0 sleep 1", "0 1 ask 0",
            "1 0 wake", "1 0 give 0", "1 1 hold 0", "1 0 ask 0", "1 1 give 0", "1 0 hold 0", "1 1 end",
            "1 0 give 0", "1 0 end",
        )

    def test_those_suspended_and_those_blocked_stand_in_one_line(self):
        # Process 0 keeps its number when it loses the unit, so it comes before process 2 of equal rank.
        self.happens(
            made("take 0 5, wait 5, give 0", "wait 1, take 0 1, wait 2, give 0", "wait 2, take 0 5, wait 1, give 0",
                 resources=(("preempt", 1),)),
            "0 0 hold 0", "0 0 sleep 5", "0 1 sleep 1", "0 2 sleep 2",
            "1 1 wake", "1 0 lose 0", "1 1 hold 0", "1 1 sleep 2",
            "2 2 wake", "2 2 ask 0",
            "3 1 wake", "3 1 give 0", "3 0 hold 0", "3 1 end",
            "7 0 wake", "7 0 give 0", "7 2 hold 0", "7 0 end", "7 2 sleep 1",
            "8 2 wake", "8 2 give 0", "8 2 end",
        )

    def test_a_blocked_process_comes_before_a_suspended_one_of_greater_rank(self):
        self.happens(
            made("take 0 5, wait 3, give 0", "wait 1, take 0 1, wait 2, give 0", "wait 2, take 0 4, wait 1, give 0",
                 resources=(("preempt", 1),)),
            "0 0 hold 0", "0 0 sleep 3", "0 1 sleep 1", "0 2 sleep 2",
            "1 1 wake", "1 0 lose 0", "1 1 hold 0", "1 1 sleep 2",
            "2 2 wake", "2 2 ask 0",
            "3 1 wake", "3 1 give 0", "3 2 hold 0", "3 1 end", "3 2 sleep 1",
            "4 2 wake", "4 2 give 0", "4 0 hold 0", "4 2 end",
            "6 0 wake", "6 0 give 0", "6 0 end",
        )

    def test_a_give_of_two_requests_ends_the_later_one(self):
        # Process 0 keeps the unit of rank 1, which process 1 cannot take.
        self.happens(
            made("take 0 1, take 0 9, give 0, wait 5, give 0", "take 0 9, wait 9, give 0", "wait 1, take 0 5, give 0",
                 resources=(("preempt", 2),)),
            "0 0 hold 0", "0 0 hold 0", "0 0 give 0", "0 0 sleep 5", "0 1 hold 0", "0 1 sleep 9", "0 2 sleep 1",
            "1 2 wake", "1 1 lose 0", "1 2 hold 0", "1 2 give 0", "1 1 hold 0", "1 2 end",
            horizon=4,
        )

    def test_the_earlier_one_of_two_requests_is_lost_and_held_again(self):
        self.happens(
            made("take 0 9, take 0 2, wait 4, give 0, wait 1, give 0", "wait 1, take 0 5, wait 1, give 0",
                 resources=(("preempt", 2),)),
            "0 0 hold 0", "0 0 hold 0", "0 0 sleep 4", "0 1 sleep 1",
            "1 1 wake", "1 0 lose 0", "1 1 hold 0", "1 1 sleep 1",
            "2 1 wake", "2 1 give 0", "2 0 hold 0", "2 1 end",
            "5 0 wake", "5 0 give 0", "5 0 sleep 1", "6 0 wake", "6 0 give 0", "6 0 end",
        )


class Bodies(Case):

    def test_repeat_0(self):
        self.happens(
            made(acts("mark 1", ("repeat", 0, acts("mark 2, wait 9")), ("mark", 3))),
            "0 0 mark 1", "0 0 mark 3", "0 0 end",
        )
        self.happens(made((("repeat", 0, (("wait", 5),)),)), "0 0 end")

    def test_repeat_1(self):
        self.happens(
            made((("repeat", 1, acts("mark 2, wait 1")), ("mark", 3))),
            "0 0 mark 2", "0 0 sleep 1", "1 0 wake", "1 0 mark 3", "1 0 end",
        )

    def test_repeat_5(self):
        self.happens(made((("repeat", 5, acts("mark 2")),)), *["0 0 mark 2"] * 5, "0 0 end")

    def test_repeats_within_repeats(self):
        inner = ("repeat", 2, (("mark", 2), ("repeat", 3, acts("mark 3")), ("repeat", 0, acts("mark 4"))))
        row = ["0 0 mark 2"] + ["0 0 mark 3"] * 3
        self.happens(
            made((("repeat", 2, (("mark", 1), inner, ("mark", 5))),)),
            *(["0 0 mark 1"] + row + row + ["0 0 mark 5"]) * 2, "0 0 end",
        )

    def test_forever(self):
        self.happens(
            made(acts("mark 1", ("forever", acts("wait 2, mark 2")))),
            "0 0 mark 1", "0 0 sleep 2", "2 0 wake", "2 0 mark 2", "2 0 sleep 2", "4 0 wake", "4 0 mark 2",
            "4 0 sleep 2",
            horizon=5,
        )

    def test_repeats_within_forever(self):
        self.happens(
            made((("forever", (("repeat", 0, acts("mark 1")), ("repeat", 1, acts("mark 2")),
                               ("repeat", 2, acts("mark 3, wait 1")))),)),
            "0 0 mark 2", "0 0 mark 3", "0 0 sleep 1", "1 0 wake", "1 0 mark 3", "1 0 sleep 1",
            "2 0 wake", "2 0 mark 2", "2 0 mark 3", "2 0 sleep 1", "3 0 wake", "3 0 mark 3", "3 0 sleep 1",
            horizon=3,
        )

    def test_two_units_within_repeats_within_forever(self):
        passes = ("repeat", 2, acts("take 0 1, wait 1, give 0"))
        self.happens(
            made((("forever", (("take", 0, 1), passes, ("give", 0))),), resources=(("fifo", 2),)),
            "0 0 hold 0", "0 0 hold 0", "0 0 sleep 1",
            "1 0 wake", "1 0 give 0", "1 0 hold 0", "1 0 sleep 1",
            "2 0 wake", "2 0 give 0", "2 0 give 0", "2 0 hold 0", "2 0 hold 0", "2 0 sleep 1",
            horizon=2,
        )


class Order(Case):

    def test_processes_begin_in_their_order(self):
        self.happens(
            made("mark 1", "mark 2", "mark 3", "", "mark 5", "mark 6"),
            "0 0 mark 1", "0 0 end", "0 1 mark 2", "0 1 end", "0 2 mark 3", "0 2 end", "0 3 end",
            "0 4 mark 5", "0 4 end", "0 5 mark 6", "0 5 end",
        )

    def test_entries_at_one_time_in_the_order_in_which_they_were_made(self):
        # At time 3: the entry of process 2 was made at time 0, that of 1 at time 1, that of 0 at time 2.
        self.happens(
            made("wait 2, wait 1", "wait 1, wait 2", "wait 3"),
            "0 0 sleep 2", "0 1 sleep 1", "0 2 sleep 3", "1 1 wake", "1 1 sleep 2", "2 0 wake", "2 0 sleep 1",
            "3 2 wake", "3 2 end", "3 1 wake", "3 1 end", "3 0 wake", "3 0 end",
        )

    def test_the_earlier_time_comes_first_whatever_the_numbers(self):
        self.happens(
            made("wait 5", "wait 4", "wait 3"),
            "0 0 sleep 5", "0 1 sleep 4", "0 2 sleep 3",
            "3 2 wake", "3 2 end", "4 1 wake", "4 1 end", "5 0 wake", "5 0 end",
        )

    def test_whoever_is_scheduled_at_time_0_comes_after_all_others(self):
        self.happens(
            made("pass 0", "open 0", "mark 1", gates=("shut",)),
            "0 0 closed 0", "0 1 open 0", "0 0 pass 0", "0 1 end", "0 2 mark 1", "0 2 end", "0 0 end",
        )

    def test_a_sleep_that_goes_on_has_a_new_entry(self):
        # Both wake at time 5; the entry of process 0 was made again at time 2, after that of process 2.
        self.happens(
            made("take 0 9, wait 4, give 0", "wait 1, take 0 0, wait 1, give 0", "wait 5", resources=(("preempt", 1),)),
            "0 0 hold 0", "0 0 sleep 4", "0 1 sleep 1", "0 2 sleep 5",
            "1 1 wake", "1 0 lose 0", "1 1 hold 0", "1 1 sleep 1",
            "2 1 wake", "2 1 give 0", "2 0 hold 0", "2 1 end",
            "5 2 wake", "5 2 end", "5 0 wake", "5 0 give 0", "5 0 end",
        )


if __name__ == "__main__":
    unittest.main()
