"""Point [40]: moment_of and resume."""

import unittest

from eventsim.errors import ModelError, NumberError, SituationError
from eventsim.models import scaled
from eventsim.traces import moment_of, resume, situation, trace
from tests.samples import BELT, CROSS, IDLE, NOT_INTEGERS, RICH, SHOP, acts, made, places, replaced

# Something of every kind stands in the situations of this one: after time 2 in all its parts.
FULL = made(
    "take 0 1, take 1 1, wait 9, give 1, give 0",
    "wait 1, take 0 0, wait 9, give 0",
    "get 0, mark 1",
    "pass 0",
    "put 1 1",
    (("wait", 1), ("forever", (("wait", 1), ("repeat", 2, acts("mark 0"))))),
    resources=(("preempt", 1), ("fifo", 2)), stores=((1, ()), (1, (0,))), gates=("shut", "open"),
)
TURNS = made(
    (("wait", 1), ("forever", acts("take 0 0, wait 2, give 0"))),
    (("forever", acts("take 0 0, wait 3, give 0")),),
    resources=(("fifo", 1),),
)
VALUES = (
    None, True, False, 0, 1, -1, 200, "", "holds", "text\n", "9" * 4000, [], (), {}, {"a": 1}, {0: ()}, [()], ((),),
    ((), (), (), (), ()), [[], [], [], [], []], ((), (), (), ()), [(), (), (), (), ()], {(): ()},
    (((("finished",), ()),), (), (), ()), ((((((((((((),),),),),),),),),),),),
)


def bad(model, thing):
    """Whether a value is nowhere taken for a situation of the model."""
    if moment_of(model, thing) is not None:
        return False
    try:
        resume(model, thing, 5)
    except SituationError as error:
        return error.__class__ is SituationError
    return False


class Moments(unittest.TestCase):

    def test_of_the_situation_after_each_time(self):
        for time in range(5):
            self.assertEqual(moment_of(SHOP, situation(SHOP, time)), time)
        for time in range(3):
            self.assertEqual(moment_of(CROSS, situation(CROSS, time)), min(time, 1))

    def test_the_least_time(self):
        for time in (5, 6, 100, 200):
            self.assertEqual(moment_of(SHOP, situation(SHOP, time)), 5)
        for time in (0, 1, 200):
            self.assertEqual(moment_of(IDLE, situation(IDLE, time)), 0)

    def test_the_least_time_of_a_cycle(self):
        for time in range(0, 201, 7):
            least = time if time < 6 else 1 + (time - 1) % 5
            self.assertEqual(moment_of(TURNS, situation(TURNS, time)), least)

    def test_time_200(self):
        model = made("wait 300")
        self.assertEqual(moment_of(model, situation(model, 200)), 200)
        self.assertEqual(moment_of(model, situation(model, 199)), 199)
        # The model has this situation after time 201 only.
        later = (((("asleep", 99), ()),), (), (), (), ((99, 0),))
        self.assertIsNone(moment_of(model, later))
        self.assertEqual(moment_of(made("wait 299"), later), 200)

    def test_of_another_model(self):
        self.assertIsNone(moment_of(SHOP, situation(BELT, 0)))
        self.assertIsNone(moment_of(SHOP, situation(scaled(SHOP, 2), 1)))
        # What counts is the situation alone.
        self.assertEqual(moment_of(made("wait 3, mark 1"), situation(made("wait 5, mark 1"), 3)), 1)

    def test_what_is_left_of_an_interrupted_sleep_is_the_rest_of_it(self):
        model = made("take 0 9, wait 9, give 0", "wait 1, take 0 0, wait 3, give 0", resources=(("preempt", 1),))
        self.assertEqual([moment_of(model, situation(model, time)) for time in range(13)], list(range(13)))

    def test_any_value(self):
        for value in VALUES:
            for model in (IDLE, SHOP, FULL):
                self.assertTrue(bad(model, value), value)

    def test_model_comes_first(self):
        for thing in ((), None, SHOP[:3], list(SHOP)):
            with self.assertRaises(ModelError):
                moment_of(thing, None)
            with self.assertRaises(ModelError):
                resume(thing, None, -1)

    def test_names(self):
        self.assertEqual(moment_of(thing=situation(SHOP, 3), model=SHOP), 3)
        self.assertEqual(
            resume(length=3, situation=situation(SHOP, 3), model=SHOP),
            resume(SHOP, situation(SHOP, 3), 3),
        )


class ThingsLikeSituations(unittest.TestCase):

    def setUp(self):
        self.view = situation(FULL, 2)
        self.assertEqual(moment_of(FULL, self.view), 2)

    def test_the_sample_has_all_parts(self):
        self.assertEqual(self.view, (
            (
                (("suspended", 0, 8), (("give", 1), ("give", 0))),
                (("asleep", 8), (("give", 0),)),
                (("empty", 0), (("mark", 1),)),
                (("closed", 0), ()),
                (("full", 1, 1), ()),
                (("asleep", 1), (("repeat", 2, (("mark", 0),)),
                                 ("forever", (("wait", 1), ("repeat", 2, (("mark", 0),)))))),
            ),
            (((1, 0, "waits"), (0, 1, "holds")), ((1, 0, "holds"),)),
            (((), (2,), ()), ((0,), (), ((4, 1),))),
            (("shut", (3,)), ("open", ())),
            ((1, 5), (8, 1)),
        ))

    def test_a_part_changed(self):
        for path, part in places(self.view):
            for value in (None, "", "other", (), (7,), -1, 11, 1000):
                if value != part:
                    self.assertIsNone(moment_of(FULL, replaced(self.view, path, value)), (path, value))

    def test_a_number_changed_by_one(self):
        for path, part in places(self.view):
            if isinstance(part, int):
                for value in (part - 1, part + 1):
                    self.assertIsNone(moment_of(FULL, replaced(self.view, path, value)), (path, value))

    def test_bools_in_place_of_numbers(self):
        count = 0
        for path, part in places(self.view):
            if part in (0, 1) and isinstance(part, int):
                count += 1
                self.assertTrue(bad(FULL, replaced(self.view, path, bool(part))), path)
        self.assertGreater(count, 20)

    def test_lists_in_place_of_tuples(self):
        for path, part in places(self.view):
            if isinstance(part, tuple):
                self.assertTrue(bad(FULL, replaced(self.view, path, list(part))), path)

    def test_a_part_left_out(self):
        for path, part in places(self.view):
            if isinstance(part, tuple):
                for at in range(len(part)):
                    self.assertTrue(bad(FULL, replaced(self.view, path, part[:at] + part[at + 1:])), (path, at))

    def test_a_part_added_or_repeated(self):
        for path, part in places(self.view):
            if isinstance(part, tuple):
                for value in ((), 0, "", *part):
                    self.assertTrue(bad(FULL, replaced(self.view, path, part + (value,))), (path, value))

    def test_turned_round(self):
        count = 0
        for path, part in places(self.view):
            if isinstance(part, tuple) and part != part[::-1]:
                count += 1
                self.assertTrue(bad(FULL, replaced(self.view, path, part[::-1])), path)
        self.assertGreater(count, 20)

    def test_strings_in_place_of_numbers(self):
        for path, part in places(self.view):
            if isinstance(part, int):
                self.assertTrue(bad(FULL, replaced(self.view, path, str(part))), path)

    def test_an_equal_copy_is_the_same(self):
        copy = tuple(tuple(part) for part in [list(part) for part in self.view])
        self.assertEqual(moment_of(FULL, copy), 2)


class Resumes(unittest.TestCase):

    def test_what_follows(self):
        view = situation(SHOP, 1)
        rows = (
            (2, 0, "wake"), (2, 0, "give", 0), (2, 1, "hold", 0), (2, 0, "end"), (2, 1, "sleep", 2),
            (4, 1, "wake"), (4, 1, "give", 0), (4, 1, "end"),
        )
        for length in (0, 1, 2, 3, 4, 5, 199, 200):
            self.assertEqual(resume(SHOP, view, length), tuple(row for row in rows if row[0] <= length))

    def test_length_0(self):
        for model in (SHOP, BELT, CROSS, RICH, FULL, TURNS, IDLE):
            for time in (0, 1, 3, 200):
                if moment_of(model, situation(model, time)) is not None:
                    self.assertEqual(resume(model, situation(model, time), 0), ())

    def test_situations_of_different_times(self):
        for model in (SHOP, BELT, CROSS, TURNS, FULL):
            for time in range(12):
                for length in range(12):
                    rows = trace(model, time + length)
                    expected = tuple((row[0] - time, *row[1:]) for row in rows if row[0] > time)
                    self.assertEqual(resume(model, situation(model, time), length), expected, (time, length))

    def test_after_the_last_event(self):
        self.assertEqual(resume(SHOP, situation(SHOP, 5), 200), ())
        self.assertEqual(resume(IDLE, situation(IDLE, 0), 200), ())

    def test_beyond_time_200(self):
        model = made("wait 300, mark 1, wait 100, mark 2, wait 1, mark 3")
        view = situation(model, 200)
        self.assertEqual(resume(model, view, 99), ())
        self.assertEqual(
            resume(model, view, 200),
            ((100, 0, "wake"), (100, 0, "mark", 1), (100, 0, "sleep", 100),
             (200, 0, "wake"), (200, 0, "mark", 2), (200, 0, "sleep", 1)),
        )
        self.assertEqual(resume(model, situation(model, 101), 200)[-1], (199, 0, "sleep", 100))

    def test_in_a_cycle_it_is_the_same_from_each_time(self):
        self.assertEqual(resume(TURNS, situation(TURNS, 106), 60), resume(TURNS, situation(TURNS, 1), 60))
        self.assertEqual(len(resume(TURNS, situation(TURNS, 196), 200)), len(resume(TURNS, situation(TURNS, 1), 200)))

    def test_wrong_lengths(self):
        for length in (-1, 201, 202, 10 ** 11, *NOT_INTEGERS):
            with self.assertRaises(NumberError):
                resume(SHOP, situation(SHOP, 1), length)

    def test_the_situation_comes_before_the_length(self):
        for length in (-1, 201, None, True):
            with self.assertRaises(SituationError) as caught:
                resume(SHOP, situation(BELT, 0), length)
            self.assertIs(caught.exception.__class__, SituationError)


if __name__ == "__main__":
    unittest.main()
