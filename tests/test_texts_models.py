"""Point [90]: format_model, and parse_model of texts of models."""

import unittest

from eventsim.errors import ModelError
from eventsim.models import beside, scaled, unrolled
from eventsim.texts import format_model, parse_model
from tests.random_models import random_model
from tests.samples import BELT, CROSS, IDLE, NO_MODELS, RICH, SHOP, acts, made
from tests.test_rhythms import loop

SAMPLE = made(
    acts("wait 3, take 0 4", ("repeat", 2, acts("mark 7")), ("give", 0), loop("wait 1")),
    resources=(("preempt", 2),), stores=((3, (5, 6)),), gates=("open",),
)
TEXT = """resource preempt 2
store 3 5 6
gate open
process
wait 3
take 0 4
repeat 2
mark 7
end
give 0
forever
wait 1
end"""


class Case(unittest.TestCase):

    def both(self, model, text):
        self.assertEqual(format_model(model), text)
        self.assertEqual(parse_model(text), model)
        self.same_kinds(parse_model(text))

    def same_kinds(self, thing):
        self.assertIn(thing.__class__, (tuple, int, str))
        if isinstance(thing, tuple):
            for part in thing:
                self.same_kinds(part)


class Lines(Case):

    def test_example(self):
        self.both(SAMPLE, TEXT)

    def test_empty_scripts(self):
        self.both(IDLE, "process")
        self.both(made("", "", ""), "process\nprocess\nprocess")
        self.both(made(*[""] * 6), "\n".join(["process"] * 6))
        self.both(made("", "wait 0", ""), "process\nprocess\nwait 0\nprocess")

    def test_all_kinds_of_lines(self):
        self.both(
            made(
                "wait 0, take 3 9, give 3, put 2 99, get 0, pass 1, open 2, shut 0, rouse 2, mark 999",
                (("repeat", 0, acts("wait 10")),),
                (loop("wait 100"),),
                resources=(("fifo", 1), ("rank", 2), ("preempt", 3), ("fifo", 3)),
                stores=((1, ()), (4, (0, 99, 5, 0)), (2, (7,))),
                gates=("open", "shut", "open"),
            ),
            "resource fifo 1\nresource rank 2\nresource preempt 3\nresource fifo 3\n"
            "store 1\nstore 4 0 99 5 0\nstore 2 7\ngate open\ngate shut\ngate open\n"
            "process\nwait 0\ntake 3 9\ngive 3\nput 2 99\nget 0\npass 1\nopen 2\nshut 0\nrouse 2\nmark 999\n"
            "process\nrepeat 0\nwait 10\nend\nprocess\nforever\nwait 100\nend",
        )

    def test_bodies_three_deep(self):
        inner = ("repeat", 5, acts("mark 1"))
        self.both(
            made((("repeat", 1, (("repeat", 2, (inner, inner)),)), ("mark", 2))),
            "process\nrepeat 1\nrepeat 2\nrepeat 5\nmark 1\nend\nrepeat 5\nmark 1\nend\nend\nend\nmark 2",
        )
        self.both(
            made((loop("wait 1", ("repeat", 3, (inner, ("wait", 0)))),), ""),
            "process\nforever\nwait 1\nrepeat 3\nrepeat 5\nmark 1\nend\nwait 0\nend\nend\nprocess",
        )

    def test_parts_of_one_kind_alone(self):
        self.both(made("", resources=(("rank", 2),)), "resource rank 2\nprocess")
        self.both(made("", stores=((1, ()),)), "store 1\nprocess")
        self.both(made("", gates=("shut",)), "gate shut\nprocess")
        self.both(made("", resources=(("fifo", 1),), gates=("shut",)), "resource fifo 1\ngate shut\nprocess")
        self.both(made("", stores=((2, (0, 0)),), gates=("open",)), "store 2 0 0\ngate open\nprocess")

    def test_as_many_parts_as_there_may_be(self):
        model = made(*["rouse 5"] * 6, resources=(("fifo", 1),) * 4, stores=((4, (1, 2, 3, 4)),) * 3,
                     gates=("open",) * 3)
        self.both(model, "\n".join(["resource fifo 1"] * 4 + ["store 4 1 2 3 4"] * 3 + ["gate open"] * 3
                                   + ["process\nrouse 5"] * 6))

    def test_a_process_that_comes_later_is_roused(self):
        self.both(made("rouse 0, rouse 1", "rouse 0"), "process\nrouse 0\nrouse 1\nprocess\nrouse 0")

    def test_great_waits(self):
        for digits in (1, 9, 12, 13, 100, 3999, 4000):
            number = int("7" * digits)
            self.both(made((("wait", number),)), "process\nwait " + "7" * digits)
        self.both(made((("forever", (("wait", 10 ** 3999),)),)), "process\nforever\nwait 1" + "0" * 3999 + "\nend")
        wait = 10 ** 3999 - 1
        self.both(scaled(made((("wait", wait),)), 9), "process\nwait 8" + "9" * 3998 + "1")

    def test_more_instructions_than_callers_pass(self):
        self.both(made((("mark", 5),) * 300), "process" + "\nmark 5" * 300)
        self.both(made((("repeat", 2, (("wait", 1),) * 40),)), "process\nrepeat 2" + "\nwait 1" * 40 + "\nend")


class ThereAndBack(Case):

    def test_samples(self):
        for model in (SHOP, BELT, CROSS, RICH, IDLE, SAMPLE):
            for one in (model, unrolled(model), scaled(model, 9), beside(model), unrolled(beside(model))):
                self.assertEqual(parse_model(format_model(one)), one)

    def test_drawn_models(self):
        for seed in range(400):
            model = random_model(seed)
            text = format_model(model)
            self.both(model, text)
            self.assertEqual(format_model(parse_model(text)), text)
            one = unrolled(model)
            self.assertEqual(parse_model(format_model(one)), one)

    def test_characters(self):
        for seed in range(50):
            text = format_model(random_model(seed))
            self.assertRegex(text, r"\A[a-z0-9]+([ \n][a-z0-9]+)*\Z")

    def test_no_models(self):
        for thing in NO_MODELS:
            with self.assertRaises(ModelError) as caught:
                format_model(thing)
            self.assertIs(caught.exception.__class__, ModelError)

    def test_names(self):
        self.assertEqual(format_model(model=SAMPLE), TEXT)
        self.assertEqual(parse_model(text=TEXT), SAMPLE)


if __name__ == "__main__":
    unittest.main()
