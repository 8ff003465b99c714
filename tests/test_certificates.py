"""Point [70]: is_rhythm."""

import copy
import unittest

from eventsim.errors import ModelError
from eventsim.rhythms import is_rhythm, rhythm
from tests.samples import BELT, CROSS, IDLE, NO_MODELS, NOT_TUPLES, SHOP, acts, made, places, replaced
from tests.test_moments import VALUES
from tests.test_rhythms import TURNS, loop

# From time 4 on the first process begins a round each 6 units of time, and the second one each 2 and once more each 6.
LATE = made(acts("wait 4, mark 1", loop("wait 6")), (loop("wait 2, mark 2"),), "mark 3")
BARRED = made("wait 2", "pass 0", "wait 1, pass 0", gates=("shut",))


class Case(unittest.TestCase):

    def good(self, model, *things):
        for thing in things:
            self.assertIs(is_rhythm(model, thing), True, thing)

    def bad(self, model, *things):
        for thing in things:
            self.assertIs(is_rhythm(model, thing), False, thing)


class Ends(Case):

    def test_any_time_from_the_end_on(self):
        self.bad(SHOP, *[("ends", time) for time in range(-1, 5)])
        self.good(SHOP, *[("ends", time) for time in range(5, 201)])
        self.bad(SHOP, ("ends", 201), ("ends", 202), ("ends", 10 ** 11))
        self.good(IDLE, ("ends", 0), ("ends", 200))

    def test_at_200_only(self):
        self.good(made("wait 200"), ("ends", 200))
        self.bad(made("wait 200"), ("ends", 199), ("ends", 201))
        self.bad(made("wait 201"), ("ends", 200), ("ends", 201))

    def test_models_that_do_not_end(self):
        for model in (CROSS, TURNS, BARRED):
            self.bad(model, *[("ends", time) for time in range(0, 201, 25)])

    def test_kinds_of_values(self):
        self.bad(IDLE, ("ends", False), ("ends", True), ("ends", "0"), ("ends", None), ("ends", (0,)), ("ends",))
        self.bad(IDLE, ["ends", 0], ("ends", 0, ()), ("ends", 0, 0), ("end", 0), ("ends ", 0), (0, "ends"), "ends 0")
        self.bad(IDLE, ("stuck", 0, ()), ("stuck", 0), ("cycle", 0, 1, (0,)), ("open",), ("open", 0))


class Halts(Case):

    def test_any_time_from_the_halt_on(self):
        self.bad(BARRED, ("stuck", -1, (1, 2)), ("stuck", 0, (1, 2)), ("stuck", 1, (1, 2)), ("stuck", 1, (0, 1, 2)))
        self.good(BARRED, *[("stuck", time, (1, 2)) for time in range(2, 201)])
        self.bad(BARRED, ("stuck", 201, (1, 2)), ("stuck", 202, (1, 2)))
        self.good(CROSS, ("stuck", 1, (0, 1)), ("stuck", 200, (0, 1)))

    def test_exactly_the_unfinished_processes_in_ascending_order(self):
        self.bad(BARRED, *[("stuck", 2, members) for members in (
            (), (1,), (2,), (2, 1), (1, 1, 2), (1, 2, 2), (0, 1, 2), (1, 2, 3), (-1, 1, 2), (0,), (1, 2, 1),
        )])

    def test_nobody_is_unfinished(self):
        self.bad(SHOP, ("stuck", 5, ()), ("stuck", 200, ()), ("stuck", 5, (0, 1)))

    def test_the_agenda_must_be_empty(self):
        model = made("pass 0", (loop("wait 3"),), gates=("shut",))
        self.bad(model, ("stuck", 0, (0,)), ("stuck", 0, (0, 1)), ("stuck", 100, (0,)), ("stuck", 200, (0, 1)))

    def test_kinds_of_values(self):
        self.bad(BARRED, ("stuck", 2, [1, 2]), ["stuck", 2, (1, 2)], ("stuck", True, (1, 2)), ("stuck", 2, (True, 2)))
        self.bad(BARRED, ("stuck", 2), ("stuck", (1, 2)), ("stuck", 2, 1, 2), ("stuck", 2, (1, 2), ()), ("stuck",))
        self.bad(BARRED, ("stuck", "2", (1, 2)), ("stuck", 2, ("1", "2")), ("stuck", 2, None), ("stuck", 2, {1: 2}))
        self.bad(BARRED, ("ends", 2, (1, 2)), ("cycle", 2, (1, 2)), ("Stuck", 2, (1, 2)), ("stuck", None, (1, 2)))
        zero = made("pass 0", "pass 0", gates=("shut",))
        self.good(zero, ("stuck", 0, (0, 1)))
        self.bad(zero, ("stuck", False, (0, 1)), ("stuck", 0, (False, 1)), ("stuck", 0, (0, True)))


class Cycles(Case):

    def test_the_rhythm_itself_and_later_starts(self):
        self.assertEqual(rhythm(TURNS), ("cycle", 1, 5, (1, 1)))
        self.bad(TURNS, ("cycle", 0, 5, (1, 1)), ("cycle", 0, 6, (1, 1)))
        self.good(TURNS, *[("cycle", start, 5, (1, 1)) for start in range(1, 196)])
        self.bad(TURNS, *[("cycle", start, 5, (1, 1)) for start in range(196, 203)])

    def test_multiples_of_the_period(self):
        self.good(TURNS, *[("cycle", 1, 5 * many, (many, many)) for many in range(1, 40)])
        self.bad(TURNS, ("cycle", 1, 200, (40, 40)), ("cycle", 0, 200, (40, 40)))
        self.bad(TURNS, ("cycle", 1, 10, (1, 1)), ("cycle", 1, 10, (1, 2)), ("cycle", 1, 5, (2, 2)))
        self.good(TURNS, ("cycle", 190, 10, (2, 2)), ("cycle", 195, 5, (1, 1)))
        self.bad(TURNS, ("cycle", 191, 10, (2, 2)))

    def test_other_periods(self):
        self.bad(TURNS, *[("cycle", 1, period, (1, 1)) for period in (-5, -1, 0, 1, 2, 3, 4, 6, 7, 200)])
        self.bad(TURNS, ("cycle", 1, 0, (0, 0)), ("cycle", 200, 0, (0, 0)), ("cycle", 6, -5, (-1, -1)))
        self.good(made((loop("wait 100, wait 100"),)), ("cycle", 0, 200, (1,)))
        self.bad(made((loop("wait 100, wait 100"),)), ("cycle", 1, 200, (1,)), ("cycle", 0, 201, (1,)))

    def test_starts(self):
        self.bad(TURNS, ("cycle", -1, 5, (1, 1)), ("cycle", -4, 5, (1, 1)), ("cycle", 201, 5, (1, 1)),
                 ("cycle", 200, 1, (1, 1)), ("cycle", 200, 0, (0, 0)), ("cycle", 10 ** 11, 5, (1, 1)))

    def test_rounds(self):
        self.assertEqual(rhythm(LATE), ("cycle", 4, 6, (1, 3, 0)))
        self.bad(LATE, *[("cycle", 4, 6, rounds) for rounds in (
            (), (1,), (1, 3), (1, 3, 0, 0), (0, 3, 0), (2, 3, 0), (1, 2, 0), (1, 4, 0), (1, 3, 1), (3, 1, 0), (1, 3, -1),
        )])

    def test_rounds_at_the_start_and_at_the_end(self):
        model = made((loop("wait 3, wait 1"),))
        # The body begins at 0, 4, 8, ..: of those at the start and at the end of a period only the latter count.
        self.good(model, *[("cycle", start, 4, (1,)) for start in range(12)])
        self.bad(model, *[("cycle", start, 4, (2,)) for start in range(12)])
        self.bad(model, *[("cycle", start, 4, (0,)) for start in range(12)])

    def test_kinds_of_values(self):
        for path, part in places(("cycle", 1, 5, (1, 1))):
            if part == 1:
                self.bad(TURNS, replaced(("cycle", 1, 5, (1, 1)), path, True))
        self.good(LATE, ("cycle", 4, 6, (1, 3, 0)))
        self.bad(LATE, ("cycle", 4, 6, (True, 3, 0)), ("cycle", 4, 6, (1, 3, False)), ("cycle", 4, 6, [1, 3, 0]))
        self.bad(TURNS, ["cycle", 1, 5, (1, 1)], ("cycle", 1, 5, [1, 1]), ("cycle", "1", 5, (1, 1)),
                 ("cycle", 1, "5", (1, 1)), ("cycle", 1, 5, ("1", "1")), ("cycle", 1, None, (1, 1)),
                 ("cycle", None, 5, (1, 1)), ("cycle", 1, 5, None), ("cycle", 1, 5, 1, 1), ("cycle", 1, (5, (1, 1))),
                 ("cycle", 1, 5, {}), ("cycle", (1,), 5, (1, 1)), ("cycle", 1, [5], (1, 1)), (("cycle",), 1, 5, (1, 1)))
        self.bad(TURNS, ("cycle",), ("cycle", 1), ("cycle", 5), ("cycle", 1, 5), ("cycle", 1, (1, 1)), ("cycle", 1, 5, 1),
                 ("cycle", 1, 5, (1, 1), ()), ("cycle", 1, 5, (1, 1), (1, 1)), (1, 5, (1, 1)), ("ends", 1, 5, (1, 1)))
        fast = made((loop("wait 1"),))
        self.good(fast, ("cycle", 0, 1, (1,)), ("cycle", 1, 1, (1,)))
        self.bad(fast, ("cycle", False, 1, (1,)), ("cycle", 0, True, (1,)), ("cycle", 0, 1, (True,)))

    def test_an_empty_agenda(self):
        for model, rounds in ((SHOP, (0, 0)), (CROSS, (0, 0)), (IDLE, (0,)), (BARRED, (0, 0, 0))):
            for start, period in ((5, 1), (10, 10), (199, 1), (100, 100), (2, 3)):
                self.bad(model, ("cycle", start, period, rounds))
        half = made((loop("wait 5, get 0"),), stores=((1, (3,)),))
        self.bad(half, ("cycle", 10, 5, (0,)), ("cycle", 50, 100, (0,)))

    def test_parts_changed_left_out_added(self):
        thing = rhythm(LATE)
        for path, part in places(thing):
            for value in (None, "", "open", (), (7,), -1, 197, 1000, [part], [], {}):
                self.bad(LATE, replaced(thing, path, value))
            if isinstance(part, tuple):
                self.bad(LATE, replaced(thing, path, list(part)), replaced(thing, path, part[::-1]))
                for at in range(len(part)):
                    self.bad(LATE, replaced(thing, path, part[:at] + part[at + 1:]))
                for value in (0, (), "", *part):
                    self.bad(LATE, replaced(thing, path, part + (value,)))


class AnyValue(Case):

    def test_open_has_no_certificate(self):
        self.assertEqual(rhythm(made("wait 300")), ("open",))
        for model in (made("wait 300"), IDLE, CROSS, TURNS):
            self.bad(model, ("open",), ("open", 0), ("open", 200), "open")

    def test_what_is_none(self):
        for model in (IDLE, SHOP, CROSS, TURNS, LATE, BARRED):
            self.bad(model, *VALUES, *NOT_TUPLES, model, rhythm(model)[:1], (rhythm(model),), rhythm(model) + (0,))

    def test_of_other_models(self):
        for model in (SHOP, CROSS, TURNS, LATE, BARRED):
            for other in (SHOP, CROSS, TURNS, LATE, BARRED):
                self.assertIs(is_rhythm(model, rhythm(other)), model is other)
        # What counts is the run alone.
        self.good(BELT, ("ends", 4), rhythm(SHOP))

    def test_arguments_are_not_modified(self):
        for thing in (["cycle", 1, 5, [1, 1]], ("stuck", 2, [1, 2]), {"ends": [5]}, ["ends", 5], [[], {}]):
            before = copy.deepcopy(thing)
            self.bad(BARRED, thing)
            self.assertEqual(thing, before)

    def test_no_models(self):
        for thing in NO_MODELS:
            with self.assertRaises(ModelError):
                is_rhythm(thing, ("ends", 0))

    def test_names(self):
        self.assertIs(is_rhythm(thing=("ends", 5), model=SHOP), True)


if __name__ == "__main__":
    unittest.main()
