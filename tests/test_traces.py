"""Points [40], [41]: trace, own_trace and first_difference."""

import unittest

from eventsim.errors import LimitError, ModelError, NumberError
from eventsim.models import unrolled
from eventsim.traces import first_difference, own_trace, situation, trace
from tests.samples import BELT, CROSS, IDLE, NOT_INTEGERS, NO_MODELS, NO_TIMES, RICH, SHOP, acts, made

MARK = acts("mark 7")


def many(*counts):
    """A model whose only process makes so many marks at the times 0, 1, ..; sleep, wake and end are events, too."""
    rows = tuple(("repeat", 1, marks(count) + (("wait", 1),)) for count in counts[:-1])
    return made(rows + (("repeat", 1, marks(counts[-1])),))


def marks(count):
    """So many marks, in at most twelve instructions, none of them more than two deep."""
    sixty = ("repeat", 5, MARK * 12)
    rows = (("repeat", 4, (sixty,) * 3),) * (count // 720)
    count %= 720
    rows += (("repeat", 5, (sixty,)),) * (count // 300)
    count %= 300
    rows += (sixty,) * (count // 60)
    count %= 60
    rows += (("repeat", count // 12, MARK * 12),)
    return rows + (("repeat", 1, MARK * (count % 12) + (("wait", 0),)),)


class Traces(unittest.TestCase):

    def test_example(self):
        self.assertEqual(
            trace(SHOP, 2),
            ((0, 0, "hold", 0), (0, 0, "sleep", 3), (0, 1, "sleep", 1), (1, 1, "wake"), (1, 1, "ask", 0)),
        )

    def test_horizons(self):
        rows = (
            (0, 0, "hold", 0), (0, 0, "sleep", 3), (0, 1, "sleep", 1), (1, 1, "wake"), (1, 1, "ask", 0),
            (3, 0, "wake"), (3, 0, "give", 0), (3, 1, "hold", 0), (3, 0, "end"), (3, 1, "sleep", 2),
            (5, 1, "wake"), (5, 1, "give", 0), (5, 1, "end"),
        )
        for horizon in (0, 1, 2, 3, 4, 5, 6, 199, 200):
            self.assertEqual(trace(SHOP, horizon), tuple(row for row in rows if row[0] <= horizon))

    def test_inclusive_up_to_200(self):
        model = made("wait 100, wait 100", "wait 100, wait 100, wait 1")
        self.assertEqual(trace(model, 200)[-4:], ((200, 0, "wake"), (200, 0, "end"), (200, 1, "wake"), (200, 1, "sleep", 1)))
        self.assertEqual(len(trace(model, 199)), 6)

    def test_waits_far_beyond_the_end(self):
        self.assertEqual(trace(made(f"wait {10 ** 12 - 1}"), 200), ((0, 0, "sleep", 10 ** 12 - 1),))

    def test_all_of_a_rich_model(self):
        rows = trace(RICH, 20)
        self.assertEqual(rows[:5], (
            (0, 0, "sleep", 1), (0, 1, "mark", 999), (0, 1, "hold", 2), (0, 1, "open", 1), (0, 1, "shut", 0),
        ))
        self.assertEqual({row[1] for row in rows}, {0, 1, 2})
        self.assertIsInstance(rows, tuple)
        for row in rows:
            self.assertIsInstance(row, tuple)
            self.assertEqual([isinstance(part, str) for part in row[:3]], [False, False, True])
            self.assertTrue(all(part.__class__ is int for part in row[:2] + row[3:]), row)

    def test_own(self):
        rows = trace(RICH, 20)
        for process in range(3):
            for horizon in (0, 1, 7, 20):
                self.assertEqual(
                    own_trace(RICH, process, horizon),
                    tuple(row for row in rows if row[1] == process and row[0] <= horizon),
                )
        self.assertEqual(own_trace(RICH, 2, 200), ((0, 2, "end"),))
        self.assertEqual(own_trace(SHOP, 1, 2), ((0, 1, "sleep", 1), (1, 1, "wake"), (1, 1, "ask", 0)))

    def test_own_has_what_others_cause(self):
        model = made("take 0 9, wait 9, give 0", "wait 1, take 0 0, give 0", resources=(("preempt", 1),))
        self.assertEqual(
            own_trace(model, 0, 1),
            ((0, 0, "hold", 0), (0, 0, "sleep", 9), (1, 0, "lose", 0), (1, 0, "hold", 0)),
        )


class TooManyEvents(unittest.TestCase):

    def test_the_helper(self):
        self.assertEqual(len(trace(many(7), 200)), 8)
        self.assertEqual(len(trace(many(621, 2), 200)), 623 + 3)

    def test_exactly_3000(self):
        for model in (many(2999), many(1000, 1000, 995), many(2000, 997)):
            self.assertEqual(len(trace(model, 200)), 3000)
            self.assertEqual(len(own_trace(model, 0, 200)), 3000)
            self.assertEqual(trace(model, 200)[-1][2], "end")

    def check_limit(self, model, horizon):
        for call in (lambda: trace(model, horizon), lambda: own_trace(model, 0, horizon)):
            with self.assertRaises(LimitError) as caught:
                call()
            self.assertEqual(caught.exception.limit, 3000)
            self.assertIs(caught.exception.__class__, LimitError)

    def test_3001(self):
        self.check_limit(many(3000), 0)
        self.check_limit(many(1000, 1000, 996), 200)
        self.check_limit(many(1000, 1000, 996), 2)

    def test_many_more_at_once(self):
        self.check_limit(made((("repeat", 5, (("repeat", 5, (("repeat", 5, MARK * 12),) * 12),) * 12),)), 0)
        self.check_limit(unrolled(made((("repeat", 5, (("repeat", 5, (("repeat", 5, MARK * 12),) * 12),) * 12),))), 0)

    def test_more_only_behind_the_horizon(self):
        model = many(1000, 1000, 996)
        self.assertEqual(len(trace(model, 1)), 2003)
        self.assertEqual(len(own_trace(model, 0, 1)), 2003)
        model = many(2999, 1)
        self.assertEqual(len(trace(model, 0)), 3000)
        self.check_limit(model, 1)

    def test_those_of_other_processes_count(self):
        exact = made(many(2989)[3][0], *[MARK] * 5)
        self.assertEqual(len(trace(exact, 0)), 3000)
        self.assertEqual(own_trace(exact, 5, 0), ((0, 5, "mark", 7), (0, 5, "end")))
        crowded = made(many(2990)[3][0], *[MARK] * 5)
        for process in range(6):
            with self.assertRaises(LimitError) as caught:
                own_trace(crowded, process, 0)
            self.assertEqual(caught.exception.limit, 3000)

    def test_a_long_forever(self):
        busy = made((("forever", (("repeat", 5, (("repeat", 5, MARK),)), ("wait", 1))),))
        # 25 marks, wake and sleep at each time but the first, which has no wake.
        self.assertEqual(len(trace(busy, 110)), 27 * 111 - 1)
        self.check_limit(busy, 111)
        self.check_limit(busy, 200)

    def test_the_limit_comes_last(self):
        for horizon in NO_TIMES:
            with self.assertRaises(NumberError):
                trace(many(3000), horizon)
            with self.assertRaises(NumberError):
                own_trace(many(3000), 0, horizon)
        with self.assertRaises(NumberError):
            own_trace(many(3000), 1, 5)

    def test_other_functions_have_no_limit(self):
        self.assertEqual(situation(many(3000), 0), situation(IDLE, 0))
        self.assertIsNone(first_difference(many(3000), many(3000), 0))
        self.assertEqual(
            first_difference(many(3000), many(3001), 0),
            (3000, (0, 0, "end"), (0, 0, "mark", 7)),
        )


class WrongArguments(unittest.TestCase):

    def test_trace(self):
        for thing in NO_MODELS:
            for horizon in (0, 201, None):
                with self.assertRaises(ModelError):
                    trace(thing, horizon)
        for horizon in NO_TIMES:
            with self.assertRaises(NumberError):
                trace(SHOP, horizon)

    def test_own_trace(self):
        for thing in NO_MODELS:
            with self.assertRaises(ModelError):
                own_trace(thing, 9, 201)
        for process in (-1, 2, 3, 5, 6, 10 ** 11, *NOT_INTEGERS):
            with self.assertRaises(NumberError):
                own_trace(SHOP, process, 5)
        for horizon in NO_TIMES:
            with self.assertRaises(NumberError):
                own_trace(SHOP, 0, horizon)

    def test_names(self):
        self.assertEqual(trace(horizon=3, model=SHOP), trace(SHOP, 3))
        self.assertEqual(own_trace(horizon=3, process=1, model=SHOP), own_trace(SHOP, 1, 3))
        self.assertEqual(first_difference(horizon=3, other=SHOP, one=IDLE), first_difference(IDLE, SHOP, 3))


class Differences(unittest.TestCase):

    def test_equal_models(self):
        for model in (SHOP, BELT, CROSS, IDLE, RICH):
            for horizon in (0, 1, 200):
                self.assertIsNone(first_difference(model, model, horizon))

    def test_models_with_the_same_trace(self):
        self.assertIsNone(first_difference(RICH, unrolled(RICH), 200))
        self.assertIsNone(first_difference(IDLE, made("wait 0", resources=(("fifo", 1),)), 200))

    def test_at_once(self):
        self.assertEqual(first_difference(SHOP, BELT, 0), (0, (0, 0, "hold", 0), (0, 0, "put", 0, 7)))
        self.assertEqual(first_difference(BELT, SHOP, 200), (0, (0, 0, "put", 0, 7), (0, 0, "hold", 0)))

    def test_late(self):
        one, other = made("wait 3, mark 1"), made("wait 3, mark 2")
        self.assertIsNone(first_difference(one, other, 2))
        self.assertEqual(first_difference(one, other, 3), (2, (3, 0, "mark", 1), (3, 0, "mark", 2)))
        self.assertEqual(first_difference(one, other, 200), (2, (3, 0, "mark", 1), (3, 0, "mark", 2)))

    def test_at_200(self):
        one, other = made("wait 200, mark 1"), made("wait 200, mark 2")
        self.assertIsNone(first_difference(one, other, 199))
        self.assertEqual(first_difference(one, other, 200), (2, (200, 0, "mark", 1), (200, 0, "mark", 2)))

    def test_only_the_first_one(self):
        one, other = made("mark 1, mark 2, mark 3"), made("mark 1, mark 5, mark 6")
        self.assertEqual(first_difference(one, other, 200), (1, (0, 0, "mark", 2), (0, 0, "mark", 5)))

    def test_one_trace_ends_before_the_other(self):
        one, other = made("pass 0", gates=("shut",)), made("pass 0", "wait 3", gates=("shut",))
        self.assertEqual(first_difference(one, other, 0), (1, None, (0, 1, "sleep", 3)))
        self.assertEqual(first_difference(other, one, 200), (1, (0, 1, "sleep", 3), None))

    def test_one_trace_ends_before_the_other_at_the_horizon(self):
        # The other one goes on, but only behind the horizon.
        one = made("wait 2, pass 0", gates=("shut",))
        other = made("wait 2, pass 0", "", gates=("shut",))
        self.assertEqual(first_difference(one, other, 1), (1, None, (0, 1, "end")))
        stays, goes = made("pass 0", gates=("shut",)), made("pass 0", "wait 1, open 0", gates=("shut",))
        self.assertEqual(first_difference(stays, goes, 1), (1, None, (0, 1, "sleep", 1)))

    def test_a_part_more(self):
        one, other = made("put 0 1", stores=((1, ()),)), made("get 0", stores=((1, (1,)),))
        self.assertEqual(first_difference(one, other, 0), (0, (0, 0, "put", 0, 1), (0, 0, "got", 0, 1)))

    def test_wrong_arguments(self):
        for thing in NO_MODELS:
            with self.assertRaises(ModelError):
                first_difference(thing, SHOP, -1)
            with self.assertRaises(ModelError):
                first_difference(SHOP, thing, -1)
        for horizon in NO_TIMES:
            with self.assertRaises(NumberError):
                first_difference(SHOP, SHOP, horizon)
            with self.assertRaises(NumberError):
                first_difference(SHOP, BELT, horizon)


if __name__ == "__main__":
    unittest.main()
