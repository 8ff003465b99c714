"""Points [20] and [21]: lines, one operation at a time."""

import unittest

from eventsim.errors import HoldError, NumberError
from eventsim.queues import Line, PreemptLine, RankLine
from tests.samples import NOT_INTEGERS

CLASSES = (Line, RankLine, PreemptLine)
BY_RANK = (RankLine, PreemptLine)
NO_PROCESSES = (-1, 6, 7, 999999999999) + NOT_INTEGERS
NO_RANKS = (-1, 10, 11, 999999999999) + NOT_INTEGERS


def seen(line):
    """All that can be seen of a line."""
    return (line.holders(), line.waiting(), line.free, line.length, repr(line))


class LineCase(unittest.TestCase):

    def shows(self, line, holders, waiting):
        self.assertEqual(line.holders(), holders)
        self.assertEqual(line.waiting(), waiting)
        self.assertIsInstance(line.holders(), tuple)
        self.assertIsInstance(line.waiting(), tuple)
        self.assertEqual(line.length, len(waiting))

    def fails(self, error, line, call, *arguments, **named):
        """The call raises this very class of error and changes nothing."""
        before = seen(line)
        with self.assertRaises(error) as caught:
            call(*arguments, **named)
        self.assertIs(type(caught.exception), error)
        self.assertEqual(seen(line), before)


class Classes(LineCase):

    def test_each_is_a_subclass_of_the_one_before(self):
        self.assertEqual(RankLine.__bases__, (Line,))
        self.assertEqual(PreemptLine.__bases__, (RankLine,))

    def test_each_defines_all_that_is_listed(self):
        listed = (
            "MOST_UNITS", "request", "release", "holders", "waiting", "free", "length", "__eq__", "__repr__",
        )
        for kind in CLASSES:
            for name in listed:
                self.assertIn(name, vars(kind))
            self.assertIsInstance(vars(kind)["free"], property)
            self.assertIsInstance(vars(kind)["length"], property)
            self.assertEqual(kind.__module__, "eventsim.queues")
        self.assertIn("preempt", vars(PreemptLine))
        self.assertFalse(hasattr(RankLine, "preempt"))

    def test_most_units(self):
        for kind in CLASSES:
            self.assertEqual(kind.MOST_UNITS, 3)
            self.assertEqual(kind(1).MOST_UNITS, 3)
            self.assertIs(type(kind.MOST_UNITS), int)

    def test_units(self):
        for kind in CLASSES:
            for units in (1, 2, 3):
                line = kind(units)
                self.assertEqual(line.free, units)
                self.shows(line, (), ())
                self.assertEqual(kind(units=units), line)

    def test_units_beyond_the_range(self):
        for kind in CLASSES:
            for units in (0, 4, -1, 5, 999999999999) + NOT_INTEGERS:
                with self.assertRaises(NumberError) as caught:
                    kind(units)
                self.assertIs(type(caught.exception), NumberError)

    def test_example_of_the_document(self):
        line = PreemptLine(1)
        self.assertEqual(
            [line.request(0, 5), line.request(1, 7), line.preempt(2, 3, (0, 1)), line.holders(), line.waiting()],
            [True, False, 0, ((3, 2),), ((5, 0), (7, 1))],
        )
        self.assertEqual(
            [line.release(2), line.free, line.length, repr(line)], [0, 0, 1, "PreemptLine(1 units, 1 waiting)"],
        )


class Requests(LineCase):

    def test_units_are_given_as_long_as_there_are_some(self):
        for kind in CLASSES:
            for units in (1, 2, 3):
                line = kind(units)
                for process in range(5):
                    holds = process < units
                    self.assertIs(line.request(process, 4), holds)
                    self.assertEqual(line.free, max(units - process - 1, 0))
                    self.assertEqual(line.length, max(process + 1 - units, 0))
                self.shows(
                    line, tuple((4, process) for process in range(units)),
                    tuple((4, process) for process in range(units, 5)),
                )

    def test_line_serves_in_the_order_of_the_requests(self):
        line = Line(1)
        for process, rank in ((0, 5), (1, 9), (2, 0), (3, 4), (1, 0)):
            line.request(process, rank)
        self.shows(line, ((5, 0),), ((9, 1), (0, 2), (4, 3), (0, 1)))

    def test_rank_lines_serve_the_least_rank_first(self):
        for kind in BY_RANK:
            line = kind(1)
            for process, rank in ((0, 5), (1, 9), (2, 0), (3, 4), (1, 0), (4, 4), (3, 9)):
                line.request(process, rank)
            self.shows(line, ((5, 0),), ((0, 2), (0, 1), (4, 3), (4, 4), (9, 1), (9, 3)))

    def test_equal_ranks_are_not_ordered_by_process(self):
        for kind in CLASSES:
            line = kind(1)
            for process in (3, 5, 0, 4, 1, 2, 0, 5):
                line.request(process, 7)
            self.shows(line, ((7, 3),), tuple((7, process) for process in (5, 0, 4, 1, 2, 0, 5)))

    def test_a_request_does_not_preempt_by_itself(self):
        for kind in CLASSES:
            line = kind(1)
            line.request(0, 9)
            self.assertIs(line.request(1, 0), False)
            self.shows(line, ((9, 0),), ((0, 1),))

    def test_holders_stand_in_the_order_of_the_requests(self):
        for kind in CLASSES:
            line = kind(3)
            for process, rank in ((5, 9), (0, 3), (2, 7)):
                line.request(process, rank)
            self.shows(line, ((9, 5), (3, 0), (7, 2)), ())

    def test_several_requests_of_one_process(self):
        for kind in CLASSES:
            line = kind(2)
            self.assertEqual([line.request(1, rank) for rank in (4, 4, 2, 2)], [True, True, False, False])
            self.shows(line, ((4, 1), (4, 1)), ((2, 1), (2, 1)))

    def test_ends_of_the_ranges(self):
        for kind in CLASSES:
            line = kind(3)
            self.assertIs(line.request(0, 0), True)
            self.assertIs(line.request(5, 9), True)
            self.shows(line, ((0, 0), (9, 5)), ())

    def test_beyond_the_ranges(self):
        for kind in CLASSES:
            line = kind(1)
            for _ in range(3):
                for process in NO_PROCESSES:
                    self.fails(NumberError, line, line.request, process, 0)
                for rank in NO_RANKS:
                    self.fails(NumberError, line, line.request, 0, rank)
                self.fails(NumberError, line, line.request, 6, 10)
                line.request(1, 1)

    def test_arguments_by_name(self):
        for kind in CLASSES:
            line = kind(1)
            self.assertIs(line.request(rank=3, process=2), True)
            self.assertIs(line.request(1, rank=0), False)
            self.shows(line, ((3, 2),), ((0, 1),))
            self.assertEqual(line.release(process=2), 1)

    def test_looking_changes_nothing(self):
        for kind in CLASSES:
            line = kind(1)
            for process, rank in ((0, 5), (1, 9), (2, 0)):
                line.request(process, rank)
            first = seen(line)
            self.assertEqual(seen(line), first)
            self.assertEqual(seen(line), first)


class Releases(LineCase):

    def test_nobody_waits(self):
        for kind in CLASSES:
            line = kind(2)
            line.request(3, 1)
            line.request(4, 1)
            self.assertIsNone(line.release(3))
            self.shows(line, ((1, 4),), ())
            self.assertEqual(line.free, 1)
            self.assertIsNone(line.release(4))
            self.assertEqual(line.free, 2)

    def test_the_first_one_in_the_line_follows(self):
        expected = {Line: [1, 2, 3, 4], RankLine: [4, 2, 3, 1], PreemptLine: [4, 2, 3, 1]}
        for kind, order in expected.items():
            line = kind(1)
            for process, rank in ((0, 5), (1, 9), (2, 2), (3, 2), (4, 0)):
                line.request(process, rank)
            self.assertEqual([line.release(process) for process in [0] + order], order + [None])
            self.shows(line, (), ())
            self.assertEqual(line.free, 1)

    def test_process_zero_is_not_taken_for_nobody(self):
        for kind in CLASSES:
            line = kind(1)
            line.request(1, 1)
            line.request(0, 1)
            follower = line.release(1)
            self.assertEqual(follower, 0)
            self.assertIs(type(follower), int)

    def test_the_follower_keeps_its_number(self):
        line = RankLine(2)
        for process, rank in ((0, 5), (1, 5), (2, 9), (3, 1)):
            line.request(process, rank)
        self.assertEqual(line.release(0), 3)
        self.shows(line, ((5, 1), (1, 3)), ((9, 2),))
        self.assertEqual(line.release(1), 2)
        self.shows(line, ((9, 2), (1, 3)), ())

    def test_the_greatest_number_of_several_ends(self):
        for kind in CLASSES:
            line = kind(3)
            for process, rank in ((1, 3), (0, 9), (1, 7)):
                line.request(process, rank)
            self.assertIsNone(line.release(1))
            self.shows(line, ((3, 1), (9, 0)), ())
            line.request(1, 1)
            self.assertIsNone(line.release(1))
            self.shows(line, ((3, 1), (9, 0)), ())

    def test_waiting_requests_of_the_process_do_not_end(self):
        for kind in CLASSES:
            line = kind(1)
            line.request(2, 4)
            line.request(2, 6)
            self.assertEqual(line.release(2), 2)
            self.shows(line, ((6, 2),), ())
            self.assertIsNone(line.release(2))
            self.fails(HoldError, line, line.release, 2)

    def test_who_holds_nothing(self):
        for kind in CLASSES:
            line = kind(1)
            for process in range(6):
                self.fails(HoldError, line, line.release, process)
            line.request(2, 4)
            line.request(3, 4)
            for process in (0, 1, 3, 4, 5):
                self.fails(HoldError, line, line.release, process)
            self.assertEqual(line.release(2), 3)
            self.fails(HoldError, line, line.release, 2)

    def test_beyond_the_range(self):
        for kind in CLASSES:
            line = kind(1)
            for _ in range(3):
                for process in NO_PROCESSES:
                    self.fails(NumberError, line, line.release, process)
                line.request(0, 1)


class Preempts(LineCase):

    def full(self, units, *rows):
        line = PreemptLine(units)
        for process, rank in rows:
            line.request(process, rank)
        return line

    def test_a_unit_is_free(self):
        for units in (1, 2, 3):
            line = self.full(units, *[(0, 9)] * (units - 1))
            before = seen(line)
            self.assertIsNone(line.preempt(1, 0, (0, 1, 2)))
            self.assertEqual(seen(line), before)

    def test_greatest_rank(self):
        line = self.full(3, (0, 4), (1, 8), (2, 6))
        self.assertEqual(line.preempt(3, 2, (0, 1, 2)), 1)
        self.shows(line, ((4, 0), (6, 2), (2, 3)), ((8, 1),))
        self.assertEqual(line.preempt(4, 2, (0, 1, 2)), 2)
        self.shows(line, ((4, 0), (2, 3), (2, 4)), ((6, 2), (8, 1)))
        self.assertEqual(line.preempt(5, 2, (0, 1, 2)), 0)
        self.shows(line, ((2, 3), (2, 4), (2, 5)), ((4, 0), (6, 2), (8, 1)))
        self.assertIsNone(line.preempt(5, 2, (0, 1, 2, 3, 4, 5)))
        self.assertEqual(line.free, 0)

    def test_greatest_number_of_equal_ranks(self):
        line = self.full(3, (5, 7), (0, 7), (3, 7))
        self.assertEqual(line.preempt(1, 0, (5, 0, 3)), 3)
        self.assertEqual(line.preempt(1, 0, (5, 0, 3)), 0)
        self.assertEqual(line.preempt(1, 0, (5, 0, 3)), 5)
        self.shows(line, ((0, 1), (0, 1), (0, 1)), ((7, 5), (7, 0), (7, 3)))

    def test_order_of_the_victims_does_not_matter(self):
        for victims in ((0, 1, 2), (2, 1, 0), (1, 0, 2), (1, 1), (5, 1, 5, 1)):
            line = self.full(3, (0, 4), (1, 8), (2, 6))
            self.assertEqual(line.preempt(3, 2, victims), 1)

    def test_only_victims_lose(self):
        line = self.full(3, (0, 4), (1, 8), (2, 6))
        self.assertEqual(line.preempt(3, 2, (0, 2)), 2)
        self.shows(line, ((4, 0), (8, 1), (2, 3)), ((6, 2),))
        self.assertEqual(line.preempt(3, 2, (0,)), 0)
        self.shows(line, ((8, 1), (2, 3), (2, 3)), ((4, 0), (6, 2)))

    def test_no_victim(self):
        line = self.full(2, (0, 4), (1, 8), (2, 9))
        before = seen(line)
        for victims in ((), (2,), (3, 4, 5), (2, 2)):
            self.assertIsNone(line.preempt(3, 0, victims))
            self.assertEqual(seen(line), before)

    def test_the_rank_must_be_greater(self):
        line = self.full(1, (0, 5))
        before = seen(line)
        for rank in (5, 6, 9):
            self.assertIsNone(line.preempt(1, rank, (0,)))
            self.assertEqual(seen(line), before)
        self.assertEqual(line.preempt(1, 4, (0,)), 0)
        self.shows(line, ((4, 1),), ((5, 0),))

    def test_waiting_requests_are_no_victims(self):
        line = self.full(1, (0, 1), (1, 9))
        self.assertIsNone(line.preempt(2, 3, (0, 1)))
        self.shows(line, ((1, 0),), ((9, 1),))
        line = self.full(2, (0, 5), (1, 1), (0, 9))
        self.assertEqual(line.preempt(2, 3, (0,)), 0)
        self.shows(line, ((1, 1), (3, 2)), ((5, 0), (9, 0)))

    def test_the_process_itself_as_the_victim(self):
        line = self.full(1, (2, 5))
        self.assertEqual(line.preempt(2, 1, (2,)), 2)
        self.shows(line, ((1, 2),), ((5, 2),))
        self.assertEqual(line.release(2), 2)
        self.shows(line, ((5, 2),), ())

    def test_one_of_several_requests_of_a_victim(self):
        line = self.full(3, (1, 6), (1, 8), (1, 7))
        self.assertEqual(line.preempt(0, 6, (1,)), 1)
        self.shows(line, ((6, 1), (7, 1), (6, 0)), ((8, 1),))
        self.assertEqual(line.preempt(0, 6, (1, 1)), 1)
        self.shows(line, ((6, 1), (6, 0), (6, 0)), ((7, 1), (8, 1)))
        self.assertIsNone(line.preempt(0, 6, (1, 1)))

    def test_the_victim_keeps_rank_and_number(self):
        line = self.full(1, (0, 5), (1, 5), (2, 4))
        self.assertEqual(line.preempt(3, 0, (0,)), 0)
        self.shows(line, ((0, 3),), ((4, 2), (5, 0), (5, 1)))
        self.assertEqual(line.release(3), 2)
        self.assertEqual(line.release(2), 0)
        self.shows(line, ((5, 0),), ((5, 1),))

    def test_the_new_request_has_the_greatest_number(self):
        line = self.full(2, (0, 5), (1, 3), (2, 1))
        self.assertEqual(line.preempt(1, 0, (0, 1)), 0)
        self.shows(line, ((3, 1), (0, 1)), ((1, 2), (5, 0)))
        self.assertEqual(line.release(1), 2)
        self.shows(line, ((3, 1), (1, 2)), ((5, 0),))

    def test_process_zero_is_not_taken_for_nobody(self):
        line = self.full(1, (0, 5))
        victim = line.preempt(1, 0, (0,))
        self.assertEqual(victim, 0)
        self.assertIs(type(victim), int)

    def test_arguments_by_name(self):
        line = self.full(1, (0, 5))
        self.assertEqual(line.preempt(victims=(0,), rank=2, process=1), 0)
        self.shows(line, ((2, 1),), ((5, 0),))

    def test_beyond_the_ranges(self):
        line = PreemptLine(1)
        for _ in range(3):
            for process in NO_PROCESSES:
                self.fails(NumberError, line, line.preempt, process, 0, (0,))
                self.fails(NumberError, line, line.preempt, 1, 0, (process,))
                self.fails(NumberError, line, line.preempt, 1, 0, (0, process))
                self.fails(NumberError, line, line.preempt, 1, 0, (process, 0, 1))
            for rank in NO_RANKS:
                self.fails(NumberError, line, line.preempt, 1, rank, (0,))
            line.request(0, 5)

    def test_victims_that_are_no_tuple(self):
        line = PreemptLine(1)
        for _ in range(2):
            for victims in (0, 1, True, False, None, "", "0", [], [0], {}, {0: 0}, -1):
                self.fails(NumberError, line, line.preempt, 1, 0, victims)
            line.request(0, 5)


class Comparison(LineCase):

    def equal(self, one, other):
        self.assertIs(one == other, True)
        self.assertIs(other == one, True)
        self.assertIs(one != other, False)
        self.assertIs(other != one, False)

    def unequal(self, one, other):
        self.assertIs(one.__eq__(other), False)
        self.assertIs(one == other, False)
        self.assertIs(other == one, False)
        self.assertIs(one != other, True)
        self.assertIs(other != one, True)

    def test_empty_lines(self):
        for kind in CLASSES:
            line = kind(2)
            self.equal(line, line)
            self.equal(kind(2), kind(2))
            self.unequal(kind(1), kind(2))
            self.unequal(kind(3), kind(2))

    def test_different_classes(self):
        for kind in CLASSES:
            for other in CLASSES:
                if kind is not other:
                    one, two = kind(1), other(1)
                    self.unequal(one, two)
                    for line in (one, two):
                        line.request(0, 1)
                        line.request(1, 1)
                    self.unequal(one, two)

    def test_same_requests(self):
        for kind in CLASSES:
            one, other = kind(1), kind(1)
            for process, rank in ((0, 5), (1, 7), (2, 3)):
                one.request(process, rank)
                self.unequal(one, other)
                other.request(process, rank)
                self.equal(one, other)

    def test_different_units_with_the_same_holders(self):
        for kind in CLASSES:
            one, other = kind(2), kind(3)
            for line in (one, other):
                line.request(0, 1)
            self.unequal(one, other)

    def test_other_process_or_rank(self):
        for kind in CLASSES:
            for at in range(3):
                for wrong in ((5, 4), (0, 5)):
                    one, other = kind(2), kind(2)
                    for place in range(3):
                        one.request(0, 4)
                        other.request(*(wrong if place == at else (0, 4)))
                    self.unequal(one, other)

    def test_same_requests_under_other_numbers(self):
        for kind in CLASSES:
            one, other = kind(1), kind(1)
            for _ in range(4):
                one.request(3, 3)
                one.release(3)
            self.equal(one, other)
            for line in (one, other):
                line.request(0, 5)
                line.request(1, 7)
            self.equal(one, other)
            one.request(2, 7)
            self.unequal(one, other)
            one.release(0)
            one.release(1)
            other.release(0)
            other.release(1)
            self.unequal(one, other)
            other.request(2, 7)
            self.equal(one, other)

    def test_other_order_of_numbers(self):
        for kind in CLASSES:
            one, other = kind(2), kind(2)
            one.request(0, 1)
            one.request(1, 1)
            other.request(1, 1)
            other.request(0, 1)
            self.unequal(one, other)

    def test_order_of_numbers_between_holders_and_waiting(self):
        # Both show the same holders and waiting requests; only the numbers of these lie differently.
        one, other = PreemptLine(1), PreemptLine(1)
        one.request(0, 5)
        one.preempt(1, 2, (0,))
        other.request(1, 2)
        other.request(0, 5)
        self.assertEqual(seen(one), seen(other))
        self.unequal(one, other)

    def test_order_of_numbers_of_waiting_requests(self):
        one, other = RankLine(1), RankLine(1)
        for process, rank in ((0, 0), (1, 3), (2, 4)):
            one.request(process, rank)
        for process, rank in ((0, 0), (2, 4), (1, 3)):
            other.request(process, rank)
        self.assertEqual(seen(one), seen(other))
        self.unequal(one, other)

    def test_holding_and_waiting(self):
        one, other = RankLine(1), RankLine(1)
        for process, rank in ((3, 9), (0, 5), (1, 5)):
            one.request(process, rank)
        one.release(3)
        for process, rank in ((0, 5), (1, 5)):
            other.request(process, rank)
        self.equal(one, other)
        one.release(0)
        self.unequal(one, other)
        one, other = PreemptLine(1), PreemptLine(1)
        one.request(0, 5)
        one.request(1, 2)
        other.request(0, 5)
        other.preempt(1, 2, (0,))
        self.unequal(one, other)
        one.release(0)
        other.release(1)
        self.unequal(one, other)

    def test_other_values(self):
        for kind in CLASSES:
            for value in (0, 1, True, None, "", repr(kind(1)), (), [], {}, ((), ()), kind, object()):
                self.unequal(kind(1), value)
            lookalike = type(kind.__name__, (), dict(vars(kind(1))))
            self.unequal(kind(1), lookalike())

    def test_comparing_changes_nothing(self):
        for kind in CLASSES:
            one, other = kind(1), kind(1)
            for line in (one, other):
                line.request(0, 5)
                line.request(1, 5)
            before = seen(one)
            self.equal(one, other)
            self.equal(one, other)
            self.assertEqual(seen(one), before)
            self.assertEqual(one.release(0), 1)
            self.assertEqual(seen(other), before)

    def test_lines_do_not_share_requests(self):
        for kind in CLASSES:
            one, other = kind(1), kind(1)
            one.request(0, 0)
            self.shows(other, (), ())
            self.assertEqual(other.free, 1)


class Words(LineCase):

    def test_repr(self):
        for kind in CLASSES:
            for units in (1, 2, 3):
                line = kind(units)
                for many in range(7):
                    waiting = max(many - units, 0)
                    self.assertEqual(repr(line), f"{kind.__name__}({units} units, {waiting} waiting)")
                    line.request(0, 0)


class Properties(LineCase):

    def test_they_cannot_be_set(self):
        for kind in CLASSES:
            line = kind(2)
            for name in ("free", "length"):
                with self.assertRaises(AttributeError):
                    setattr(line, name, 1)


if __name__ == "__main__":
    unittest.main()
