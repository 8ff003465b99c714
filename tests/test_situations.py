"""Points [32], [33], [40]: what is left of scripts, and situations."""

import unittest

from eventsim.errors import ModelError, NumberError
from eventsim.traces import situation
from tests.samples import BELT, IDLE, NOT_INTEGERS, SHOP, acts, made


def left(model, time, process=0):
    return situation(model, time)[0][process][1]


def status(model, time, process=0):
    return situation(model, time)[0][process][0]


class WhatIsLeft(unittest.TestCase):

    def check(self, script, *expected):
        """What is left of the script of a single process after the times 0, 1, .."""
        model = made(script)
        for time, rest in enumerate(expected):
            self.assertEqual(left(model, time), rest, time)

    def test_plain_instructions(self):
        self.check(
            acts("mark 1, wait 2, mark 2, wait 1, mark 3"),
            acts("mark 2, wait 1, mark 3"), acts("mark 2, wait 1, mark 3"), acts("mark 3"), (), (),
        )

    def test_nothing(self):
        self.check((), (), ())

    def test_instructions_that_have_not_begun_stay_as_they_are(self):
        rest = acts("wait 0", ("repeat", 0, acts("mark 1")), ("repeat", 5, (("repeat", 1, acts("wait 0")),)))
        self.check((("wait", 1), *rest), rest, ())

    def test_one_that_blocked_has_begun(self):
        self.assertEqual(left(made("pass 0, mark 1", gates=("shut",)), 0), acts("mark 1"))
        self.assertEqual(left(made("get 0, mark 1", stores=((1, ()),)), 0), acts("mark 1"))
        self.assertEqual(left(made("put 0 3, mark 1", stores=((1, (1,)),)), 0), acts("mark 1"))

    def test_repeat_in_progress(self):
        body = acts("mark 1, wait 1, mark 2")
        self.check(
            (("repeat", 3, body), ("mark", 3)),
            (("mark", 2), ("repeat", 2, body), ("mark", 3)),
            (("mark", 2), ("repeat", 1, body), ("mark", 3)),
            (("mark", 2), ("mark", 3)),
            (),
        )

    def test_repeat_whose_pass_is_at_its_end(self):
        body = acts("wait 1")
        self.check((("repeat", 2, body),), (("repeat", 1, body),), (), ())
        self.check((("repeat", 1, body), ("mark", 1)), acts("mark 1"), ())

    def test_repeats_within_repeats(self):
        inner = acts("wait 1, mark 1")
        body = (("mark", 2), ("repeat", 2, inner), ("mark", 3))
        self.check(
            (("repeat", 2, body), ("mark", 4)),
            (("mark", 1), ("repeat", 1, inner), ("mark", 3), ("repeat", 1, body), ("mark", 4)),
            (("mark", 1), ("mark", 3), ("repeat", 1, body), ("mark", 4)),
            (("mark", 1), ("repeat", 1, inner), ("mark", 3), ("mark", 4)),
            (("mark", 1), ("mark", 3), ("mark", 4)),
            (),
        )

    def test_repeats_three_deep(self):
        deepest = acts("wait 1")
        deeper = (("repeat", 2, deepest),)
        deep = (("repeat", 2, deeper),)
        self.check(
            (("repeat", 2, deep),),
            (("repeat", 1, deepest), ("repeat", 1, deeper), ("repeat", 1, deep)),
            (("repeat", 1, deeper), ("repeat", 1, deep)),
            (("repeat", 1, deepest), ("repeat", 1, deep)),
            (("repeat", 1, deep),),
            (("repeat", 1, deepest), ("repeat", 1, deeper)),
            (("repeat", 1, deeper),),
            (("repeat", 1, deepest),),
            (),
        )

    def test_forever(self):
        forever = ("forever", acts("wait 1, mark 1, wait 1"))
        self.check(
            (("mark", 2), forever),
            (("mark", 1), ("wait", 1), forever), (forever,), (("mark", 1), ("wait", 1), forever), (forever,),
        )

    def test_repeats_within_forever(self):
        forever = ("forever", (("repeat", 3, acts("wait 1")), ("mark", 1), ("repeat", 2, acts("wait 1, mark 2"))))
        late = ("repeat", 2, acts("wait 1, mark 2"))
        self.check(
            (forever,),
            (("repeat", 2, acts("wait 1")), ("mark", 1), late, forever),
            (("repeat", 1, acts("wait 1")), ("mark", 1), late, forever),
            (("mark", 1), late, forever),
            (("mark", 2), ("repeat", 1, acts("wait 1, mark 2")), forever),
            (("mark", 2), forever),
            (("repeat", 2, acts("wait 1")), ("mark", 1), late, forever),
        )

    def test_long_after_the_beginning_of_a_forever(self):
        forever = ("forever", acts("wait 1, wait 0"))
        for time in (0, 1, 100, 199, 200):
            self.assertEqual(left(made((forever,)), time), (("wait", 0), forever))


class Statuses(unittest.TestCase):

    def check(self, model, time, *statuses):
        self.assertEqual(tuple(pair[0] for pair in situation(model, time)[0]), statuses)

    def test_asleep(self):
        model = made("wait 3, wait 1", "wait 2, wait 9")
        self.check(model, 0, ("asleep", 3), ("asleep", 2))
        self.check(model, 1, ("asleep", 2), ("asleep", 1))
        self.check(model, 2, ("asleep", 1), ("asleep", 9))
        self.check(model, 3, ("asleep", 1), ("asleep", 8))
        self.check(model, 4, ("finished",), ("asleep", 7))

    def test_asleep_long_after_200(self):
        self.check(made("wait 999999999999"), 200, ("asleep", 999999999799))

    def test_suspended(self):
        model = made("take 1 9, wait 9, give 1", "wait 2, take 1 0, wait 3, give 1",
                     resources=(("fifo", 1), ("preempt", 1)))
        self.check(model, 1, ("asleep", 8), ("asleep", 1))
        for time in (2, 3, 4):
            self.check(model, time, ("suspended", 1, 7), ("asleep", 5 - time))
        self.check(model, 5, ("asleep", 7), ("finished",))
        self.check(model, 11, ("asleep", 1), ("finished",))
        self.check(model, 12, ("finished",), ("finished",))

    def test_wants(self):
        model = made("take 1 9, wait 2, give 1", "take 1 0, wait 1, give 1", resources=(("fifo", 1), ("rank", 1)))
        self.check(model, 0, ("asleep", 2), ("wants", 1))
        self.check(model, 1, ("asleep", 1), ("wants", 1))
        self.check(model, 2, ("finished",), ("asleep", 1))

    def test_full_and_empty(self):
        model = made("put 1 42", "get 0", "wait 2, get 1, put 0 1", stores=((1, ()), (1, (7,))))
        self.check(model, 1, ("full", 1, 42), ("empty", 0), ("asleep", 1))
        self.check(model, 2, ("finished",), ("finished",), ("finished",))

    def test_closed(self):
        model = made("pass 1", "wait 2, open 1", gates=("open", "shut"))
        self.check(model, 0, ("closed", 1), ("asleep", 2))
        self.check(model, 2, ("finished",), ("finished",))

    def test_finished(self):
        self.check(made("", "mark 1"), 0, ("finished",), ("finished",))
        self.check(made("", "mark 1"), 200, ("finished",), ("finished",))


class Parts(unittest.TestCase):

    def test_all_of_it(self):
        model = made("take 0 1, wait 3, give 0", "wait 1, take 0 4, give 0", "pass 0", "get 0, get 0", "put 1 9",
                     resources=(("fifo", 1),), stores=((2, (3,)), (1, (8,))), gates=("shut", "open"))
        self.assertEqual(situation(model, 1), (
            (
                (("asleep", 2), (("give", 0),)),
                (("wants", 0), (("give", 0),)),
                (("closed", 0), ()),
                (("empty", 0), ()),
                (("full", 1, 9), ()),
            ),
            (((1, 0, "holds"), (4, 1, "waits")),),
            (((), (3,), ()), ((8,), (), ((4, 9),))),
            (("shut", (2,)), ("open", ())),
            ((2, 0),),
        ))

    def test_of_a_model_with_no_parts(self):
        self.assertEqual(situation(IDLE, 0), (((("finished",), ()),), (), (), (), ()))
        self.assertEqual(situation(IDLE, 200), (((("finished",), ()),), (), (), (), ()))

    def test_requests_in_the_order_of_their_numbers(self):
        model = made("take 0 7, wait 9, give 0", "wait 1, take 0 5, wait 2, give 0", "take 0 9, give 0",
                     "wait 2, take 0 8, give 0", resources=(("preempt", 1),))
        self.assertEqual(situation(model, 0)[1], (((7, 0, "holds"), (9, 2, "waits")),))
        self.assertEqual(situation(model, 1)[1], (((7, 0, "waits"), (9, 2, "waits"), (5, 1, "holds")),))
        self.assertEqual(
            situation(model, 2)[1],
            (((7, 0, "waits"), (9, 2, "waits"), (5, 1, "holds"), (8, 3, "waits")),),
        )
        self.assertEqual(situation(model, 3)[1], (((7, 0, "holds"), (9, 2, "waits"), (8, 3, "waits")),))

    def test_requests_of_several_resources(self):
        model = made("take 2 7, take 2 3, take 0 1, wait 9, give 0, give 2, give 2",
                     resources=(("preempt", 1), ("rank", 2), ("fifo", 3)))
        self.assertEqual(situation(model, 0)[1], (((1, 0, "holds"),), (), ((7, 0, "holds"), (3, 0, "holds"))))
        self.assertEqual(situation(model, 9)[1], ((), (), ()))

    def test_items_and_those_who_wait(self):
        model = made("put 0 1, put 0 2, put 0 3", "wait 1, put 0 4", "wait 2, get 0", "wait 3, get 1", "wait 1, get 1",
                     stores=((2, (9,)), (1, ())))
        self.assertEqual(situation(model, 0)[2], (((9, 1), (), ((0, 2),)), ((), (), ())))
        self.assertEqual(situation(model, 1)[2], (((9, 1), (), ((0, 2), (1, 4))), ((), (4,), ())))
        # Process 0 goes on to put its third item at the same time, and stands behind process 1.
        self.assertEqual(situation(model, 2)[2], (((1, 2), (), ((1, 4), (0, 3))), ((), (4,), ())))
        self.assertEqual(situation(model, 3)[2], (((1, 2), (), ((1, 4), (0, 3))), ((), (4, 3), ())))

    def test_gates_and_those_who_wait(self):
        model = made("wait 1, pass 0", "pass 0", "wait 2, open 0, shut 1", "wait 3, shut 0, pass 0",
                     gates=("shut", "open"))
        self.assertEqual(situation(model, 0)[3], (("shut", (1,)), ("open", ())))
        self.assertEqual(situation(model, 1)[3], (("shut", (1, 0)), ("open", ())))
        self.assertEqual(situation(model, 2)[3], (("open", ()), ("shut", ())))
        self.assertEqual(situation(model, 3)[3], (("shut", (3,)), ("shut", ())))

    def test_agenda(self):
        model = made("wait 2, wait 1", "wait 1, wait 2", "wait 3", "wait 1")
        self.assertEqual(situation(model, 0)[4], ((1, 1), (1, 3), (2, 0), (3, 2)))
        self.assertEqual(situation(model, 1)[4], ((1, 0), (2, 2), (2, 1)))
        self.assertEqual(situation(model, 2)[4], ((1, 2), (1, 1), (1, 0)))
        self.assertEqual(situation(model, 3)[4], ())
        self.assertEqual(situation(model, 200)[4], ())

    def test_agenda_without_those_suspended(self):
        model = made("take 0 9, wait 9, give 0", "wait 1, take 0 0, wait 3, give 0", resources=(("preempt", 1),))
        self.assertEqual(situation(model, 0)[4], ((1, 1), (9, 0)))
        self.assertEqual(situation(model, 1)[4], ((3, 1),))
        self.assertEqual(situation(model, 4)[4], ((8, 0),))

    def test_agenda_without_the_entry_of_a_sleep_that_was_interrupted(self):
        model = made("wait 9, wait 4", "wait 1, rouse 0")
        self.assertEqual(situation(model, 1)[4], ((4, 0),))

    def test_example(self):
        self.assertEqual(situation(SHOP, 1), (
            ((("asleep", 2), (("give", 0),)), (("wants", 0), (("wait", 2), ("give", 0)))),
            (((0, 0, "holds"), (0, 1, "waits")),), (), (), ((2, 0),),
        ))

    def test_after_the_last_event(self):
        for time in (5, 6, 200):
            self.assertEqual(
                situation(SHOP, time),
                (((("finished",), ()), (("finished",), ())), ((),), (), (), ()),
            )
        for time in (4, 100):
            self.assertEqual(
                situation(BELT, time),
                (((("finished",), ()), (("finished",), ())), (), (((8,), (), ()),), (), ()),
            )

    def test_numbers_are_no_bools(self):
        text = repr(situation(made("take 0 1, get 0, wait 1, give 0", "take 0 0, give 0", "pass 0",
                                   resources=(("rank", 1),), stores=((2, (1, 0)),), gates=("shut",)), 0))
        self.assertNotIn("True", text)
        self.assertNotIn("False", text)


class WrongArguments(unittest.TestCase):

    def test_no_model(self):
        for thing in ((), None, 0, "model", [], list(SHOP), SHOP[:3], ((), (), (), ())):
            with self.assertRaises(ModelError):
                situation(thing, 0)
            with self.assertRaises(ModelError):
                situation(thing, 201)

    def test_no_time(self):
        for thing in (-1, 201, 202, 10 ** 11, -(10 ** 11), *NOT_INTEGERS):
            with self.assertRaises(NumberError):
                situation(SHOP, thing)

    def test_names(self):
        self.assertEqual(situation(time=1, model=SHOP), situation(SHOP, 1))


if __name__ == "__main__":
    unittest.main()
