"""Point [12]: beside, scaled and unrolled."""

import itertools
import unittest

from eventsim.errors import LimitError, ModelError, NumberError
from eventsim.models import beside, is_model, scaled, unrolled
from tests.samples import BELT, IDLE, NOT_INTEGERS, NOT_TUPLES, RICH, SHOP, solo, words

NO_MODELS = NOT_TUPLES + (
    (), SHOP[:3], SHOP + ((),), list(SHOP), ((), (), (), ()), ((), (), (), [()]), ((("fifo", 4),), (), (), ((),)),
    ((), (), (), ((("forever", (("mark", 1),)),),)), ((("fifo", 1),), (), (), ((("take", 0, 0),),)),
)


def parts(resources=0, stores=0, gates=0, scripts=1):
    """A model with so many of each part and nothing to do."""
    return ((("fifo", 1),) * resources, ((1, ()),) * stores, ("open",) * gates, ((),) * scripts)


class ErrorCase(unittest.TestCase):

    def fails(self, error, call, *arguments, **named):
        """The call raises this very class of error; the error is returned."""
        with self.assertRaises(error) as caught:
            call(*arguments, **named)
        self.assertIs(type(caught.exception), error)
        return caught.exception


class Beside(ErrorCase):

    def exceeds(self, limit, *models):
        self.assertEqual(self.fails(LimitError, beside, *models).limit, limit)

    def test_one_model_alone(self):
        for model in (SHOP, BELT, IDLE, RICH, parts(4, 3, 3, 6)):
            self.assertEqual(beside(model), model)

    def test_order_of_the_parts(self):
        one = ((("fifo", 1),), ((1, (5,)), (2, ())), ("open",), ((("mark", 1),), (("mark", 2),)))
        two = ((("rank", 2), ("preempt", 3)), ((3, (7, 8)),), ("shut", "open"), ((("mark", 3),),))
        self.assertEqual(beside(one, two), (
            (("fifo", 1), ("rank", 2), ("preempt", 3)),
            ((1, (5,)), (2, ()), (3, (7, 8))),
            ("open", "shut", "open"),
            ((("mark", 1),), (("mark", 2),), (("mark", 3),)),
        ))
        self.assertEqual(beside(two, one), (
            (("rank", 2), ("preempt", 3), ("fifo", 1)),
            ((3, (7, 8)), (1, (5,)), (2, ())),
            ("shut", "open", "open"),
            ((("mark", 3),), (("mark", 1),), (("mark", 2),)),
        ))

    def test_numbers_shifted(self):
        model = (
            (("fifo", 1), ("rank", 1)), ((1, ()),), ("open",),
            ((
                ("wait", 3), ("take", 0, 7), ("take", 1, 4), ("give", 1), ("give", 0), ("put", 0, 5), ("get", 0),
                ("pass", 0), ("open", 0), ("shut", 0), ("rouse", 0), ("mark", 6),
            ),),
        )
        first = parts(2, 1, 2, 3)
        self.assertEqual(beside(first, model)[3], ((), (), (), (
            ("wait", 3), ("take", 2, 7), ("take", 3, 4), ("give", 3), ("give", 2), ("put", 1, 5), ("get", 1),
            ("pass", 2), ("open", 2), ("shut", 2), ("rouse", 3), ("mark", 6),
        )))
        self.assertEqual(beside(model, first)[3], model[3] + ((), (), ()))

    def test_each_kind_is_shifted_by_its_own_number(self):
        script = (
            ("take", 0, 1), ("give", 0), ("put", 0, 1), ("get", 0), ("pass", 0), ("open", 0), ("shut", 0),
            ("rouse", 0),
        )
        model = parts(1, 1, 1)[:3] + ((script,),)
        for resources, stores, gates, scripts in itertools.product((0, 1, 3), (0, 2), (0, 2), (1, 5)):
            self.assertEqual(beside(parts(resources, stores, gates, scripts), model)[3][-1], (
                ("take", resources, 1), ("give", resources), ("put", stores, 1), ("get", stores), ("pass", gates),
                ("open", gates), ("shut", gates), ("rouse", scripts),
            ))

    def test_numbers_in_bodies(self):
        body = (
            ("wait", 1), ("take", 0, 9), ("give", 0), ("put", 0, 9), ("get", 0), ("pass", 0), ("open", 0),
            ("shut", 0), ("rouse", 0), ("mark", 9),
        )
        moved = (
            ("wait", 1), ("take", 2, 9), ("give", 2), ("put", 1, 9), ("get", 1), ("pass", 2), ("open", 2),
            ("shut", 2), ("rouse", 3), ("mark", 9),
        )
        nested = {
            (("repeat", 4, body),): (("repeat", 4, moved),),
            (("repeat", 0, (("mark", 1), ("repeat", 5, body))),): (("repeat", 0, (("mark", 1), ("repeat", 5, moved))),),
            (("forever", body),): (("forever", moved),),
            (("repeat", 1, (("repeat", 2, (("repeat", 3, body),)),)), ("forever", body + (("repeat", 0, body),))):
                (("repeat", 1, (("repeat", 2, (("repeat", 3, moved),)),)), ("forever", moved + (("repeat", 0, moved),))),
        }
        for script, expected in nested.items():
            model = parts(1, 1, 1)[:3] + ((script,),)
            self.assertEqual(beside(parts(2, 1, 2, 3), model)[3][3], expected)

    def test_three_and_more_models(self):
        model = ((("fifo", 1),), ((1, ()),), ("open",), (
            (("take", 0, 0), ("give", 0)), (("put", 0, 3), ("get", 0), ("pass", 0), ("rouse", 1)),
        ))
        self.assertEqual(beside(model, model, model), (
            (("fifo", 1),) * 3, ((1, ()),) * 3, ("open",) * 3,
            (
                (("take", 0, 0), ("give", 0)), (("put", 0, 3), ("get", 0), ("pass", 0), ("rouse", 1)),
                (("take", 1, 0), ("give", 1)), (("put", 1, 3), ("get", 1), ("pass", 1), ("rouse", 3)),
                (("take", 2, 0), ("give", 2)), (("put", 2, 3), ("get", 2), ("pass", 2), ("rouse", 5)),
            ),
        ))
        self.assertEqual(beside(*[IDLE] * 6), parts(scripts=6))

    def test_result_is_a_model(self):
        self.assertTrue(is_model(beside(RICH, SHOP)))
        self.assertEqual(beside(beside(SHOP, BELT), IDLE), beside(SHOP, beside(BELT, IDLE)))

    def test_again_and_unchanged(self):
        self.assertEqual(beside(SHOP, BELT), beside(SHOP, BELT))
        self.assertEqual(SHOP, ((("fifo", 1),), (), (), (
            (("take", 0, 0), ("wait", 3), ("give", 0)),
            (("wait", 1), ("take", 0, 0), ("wait", 2), ("give", 0)),
        )))

    def test_no_model_at_all(self):
        self.fails(ModelError, beside)

    def test_no_models(self):
        for thing in NO_MODELS:
            self.fails(ModelError, beside, thing)
            self.fails(ModelError, beside, SHOP, thing)
            self.fails(ModelError, beside, thing, SHOP)
            self.fails(ModelError, beside, SHOP, SHOP, thing, SHOP)

    def test_no_model_beside_models_that_do_not_fit(self):
        for full in (parts(scripts=6), parts(resources=4), parts(stores=3), parts(gates=3)):
            for thing in NO_MODELS:
                self.fails(ModelError, beside, full, full, full, thing)
                self.fails(ModelError, beside, thing, full, full, full)

    def test_most_processes(self):
        self.assertEqual(beside(parts(scripts=3), parts(scripts=3)), parts(scripts=6))
        self.exceeds(6, parts(scripts=3), parts(scripts=4))
        self.exceeds(6, parts(scripts=6), IDLE)
        self.exceeds(6, *[IDLE] * 7)

    def test_most_resources(self):
        self.assertEqual(beside(parts(2), parts(2)), parts(4, scripts=2))
        self.exceeds(4, parts(2), parts(3))
        self.exceeds(4, parts(4), parts(1))
        self.exceeds(4, *[parts(1)] * 5)

    def test_most_stores(self):
        self.assertEqual(beside(parts(0, 1), parts(0, 2)), parts(0, 3, scripts=2))
        self.exceeds(3, parts(0, 2), parts(0, 2))
        self.exceeds(3, *[parts(0, 1)] * 4)

    def test_most_gates(self):
        self.assertEqual(beside(parts(0, 0, 1), parts(0, 0, 2)), parts(0, 0, 3, scripts=2))
        self.exceeds(3, parts(0, 0, 2), parts(0, 0, 2))
        self.exceeds(3, *[parts(0, 0, 1)] * 4)

    def test_all_at_their_limits(self):
        self.assertEqual(beside(parts(4, 3, 0, 3), parts(0, 0, 3, 3)), parts(4, 3, 3, 6))

    def test_order_of_the_limits(self):
        self.exceeds(6, parts(4, 3, 3, 6), parts(4, 3, 3, 6))
        self.exceeds(6, parts(4, 3, 3, 6), IDLE)
        self.exceeds(6, parts(0, 3, 3, 6), parts(0, 3, 3))
        self.exceeds(6, parts(4, 0, 0, 6), parts(4))
        self.exceeds(4, parts(4, 3, 3, 1), parts(4, 3, 3, 1))
        self.exceeds(4, parts(4, 0, 3, 1), parts(4, 0, 3, 5))
        self.exceeds(4, parts(4, 3, 0, 1), parts(4, 3, 0, 5))
        self.exceeds(3, parts(4, 3, 3, 1), parts(0, 3, 3, 5))


class Scaled(ErrorCase):

    def test_all_waits_and_nothing_else(self):
        model = solo(
            ("wait", 0), ("wait", 1), ("wait", 100), ("take", 1, 9), ("give", 1), ("put", 2, 99), ("get", 2),
            ("pass", 2), ("open", 1), ("shut", 1), ("rouse", 2), ("mark", 999), ("repeat", 5, (("mark", 7),)),
        )
        expected = solo(
            ("wait", 0), ("wait", 4), ("wait", 400), ("take", 1, 9), ("give", 1), ("put", 2, 99), ("get", 2),
            ("pass", 2), ("open", 1), ("shut", 1), ("rouse", 2), ("mark", 999), ("repeat", 5, (("mark", 7),)),
        )
        self.assertEqual(scaled(model, 4), expected)

    def test_waits_in_bodies(self):
        def model(one, two, three, four):
            return solo(
                ("repeat", 0, (("wait", one), ("repeat", 2, (("repeat", 3, (("wait", two), ("mark", 2))),)))),
                ("forever", (("wait", three), ("repeat", 4, (("mark", 1), ("wait", four))), ("mark", 3))),
            )
        self.assertEqual(scaled(model(1, 2, 3, 4), 3), model(3, 6, 9, 12))

    def test_every_script(self):
        model = ((), (), (), tuple((("wait", time),) for time in range(6)))
        self.assertEqual(scaled(model, 9), ((), (), (), tuple((("wait", 9 * time),) for time in range(6))))

    def test_factors_in_the_range(self):
        for factor in range(1, 10):
            self.assertEqual(scaled(solo(("wait", 7)), factor), solo(("wait", 7 * factor)))
        for model in (SHOP, BELT, IDLE, RICH):
            self.assertEqual(scaled(model, 1), model)

    def test_factors_beyond_the_range(self):
        for factor in (0, 10, -1, 11, 999999999999) + NOT_INTEGERS:
            self.fails(NumberError, scaled, SHOP, factor)
            self.fails(NumberError, scaled, IDLE, factor)

    def test_no_model(self):
        for thing in NO_MODELS:
            self.fails(ModelError, scaled, thing, 2)

    def test_no_model_and_no_factor(self):
        for thing in NO_MODELS:
            for factor in (0, 10, None, True, "2"):
                self.fails(ModelError, scaled, thing, factor)

    def test_returned_models_passed_in_again(self):
        model, factor = RICH, 1
        for _ in range(300):
            model = scaled(model, 9)
            factor *= 9
        self.assertTrue(is_model(model))
        self.assertEqual(model[3][0][0], ("wait", factor))
        self.assertEqual(model[3][1][1][1][2][2][1], ("repeat", 1, (("wait", factor),)))
        self.assertEqual(beside(model), model)
        self.assertEqual(unrolled(unrolled(model)), unrolled(model))

    def test_by_name_again_and_unchanged(self):
        before = repr(RICH)
        self.assertEqual(scaled(model=RICH, factor=3), scaled(RICH, 3))
        self.assertEqual(scaled(factor=3, model=RICH), scaled(RICH, 3))
        self.assertEqual(repr(RICH), before)


def spelled(script):
    """A script without repeat, written out by the definition of what is executed."""
    written = ()
    for instruction in script:
        if instruction[0] == "repeat":
            for _ in range(instruction[1]):
                written += spelled(instruction[2])
        elif instruction[0] == "forever":
            written += (("forever", spelled(instruction[1])),)
        else:
            written += (instruction,)
    return written


class Unrolled(ErrorCase):

    def test_example_of_the_document(self):
        self.assertEqual(
            unrolled(((), (), (), ((("repeat", 2, (("mark", 7), ("wait", 1))),),))),
            ((), (), (), ((("mark", 7), ("wait", 1), ("mark", 7), ("wait", 1)),)),
        )

    def test_times(self):
        for times in range(6):
            self.assertEqual(
                unrolled(solo(("mark", 0), ("repeat", times, words(1, 2)), ("mark", 3))),
                solo(*words(0), *words(1, 2) * times, *words(3)),
            )
        self.assertEqual(unrolled(solo(("repeat", 0, words(1)))), solo())

    def test_repeat_within_repeat(self):
        script = (("repeat", 2, (("mark", 1), ("repeat", 3, (("mark", 2), ("repeat", 2, words(3, 4)))), ("mark", 5))),)
        inner = words(2, 3, 4, 3, 4)
        self.assertEqual(unrolled(solo(*script)), solo(*(words(1) + inner * 3 + words(5)) * 2))

    def test_times_none_within_and_around(self):
        for outer, inner in itertools.product((0, 1, 3), repeat=2):
            script = (("repeat", outer, (("mark", 1), ("repeat", inner, words(2)))), ("mark", 3))
            self.assertEqual(unrolled(solo(*script)), solo(*(words(1) + words(2) * inner) * outer, *words(3)))

    def test_within_forever(self):
        self.assertEqual(
            unrolled(solo(("mark", 0), ("forever", (
                ("repeat", 2, (("wait", 1), ("repeat", 2, words(5)))), ("repeat", 0, (("wait", 9),)), ("mark", 6),
            )))),
            solo(("mark", 0), ("forever", (("wait", 1),) + words(5, 5) + (("wait", 1),) + words(5, 5, 6))),
        )

    def test_every_script_and_the_other_parts(self):
        self.assertEqual(unrolled(RICH), RICH[:3] + ((
            (("wait", 1), ("take", 1, 9), ("put", 1, 0), ("put", 1, 0), ("give", 1), ("rouse", 1)),
            (("mark", 999), ("forever", (
                ("take", 2, 1), ("open", 1), ("shut", 0), ("wait", 1), ("shut", 0), ("wait", 1), ("shut", 0),
                ("wait", 1), ("give", 2),
            ))),
            (),
        ),))

    def test_units_in_bodies(self):
        model = solo(("take", 0, 1), ("repeat", 2, (("give", 0), ("take", 0, 2))), ("give", 0))
        self.assertEqual(unrolled(model), solo(
            ("take", 0, 1), ("give", 0), ("take", 0, 2), ("give", 0), ("take", 0, 2), ("give", 0),
        ))
        self.assertTrue(is_model(unrolled(model)))

    def test_all_small_nestings(self):
        for a, b, c in itertools.product((0, 1, 2, 5), repeat=3):
            script = (
                ("repeat", a, (("mark", 1), ("repeat", b, (("mark", 2), ("repeat", c, words(3)), ("wait", 1))))),
                ("forever", (("wait", 1), ("repeat", b, (("repeat", c, words(4)), ("repeat", a, words(5)))))),
            )
            model = unrolled(solo(*script))
            self.assertEqual(model, solo(*spelled(script)))
            self.assertTrue(is_model(model))

    def test_model_without_repeat(self):
        for model in (SHOP, BELT, IDLE):
            self.assertEqual(unrolled(model), model)

    def test_returned_models_passed_in_again(self):
        long = unrolled(solo(("repeat", 5, (("repeat", 5, (("repeat", 5, words(*range(12))),)),))))
        self.assertEqual(len(long[3][0]), 1500)
        self.assertEqual(unrolled(long), long)
        self.assertEqual(scaled(long, 9), long)
        body = ("repeat", 2, (("repeat", 2, (("repeat", 2, long[3][0]),)),))
        self.assertEqual(unrolled(solo(body)), solo(*long[3][0] * 8))

    def test_no_model(self):
        for thing in NO_MODELS:
            self.fails(ModelError, unrolled, thing)

    def test_by_name_again_and_unchanged(self):
        before = repr(RICH)
        self.assertEqual(unrolled(model=RICH), unrolled(RICH))
        self.assertEqual(repr(RICH), before)


if __name__ == "__main__":
    unittest.main()
