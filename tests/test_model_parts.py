"""Point [10]: the parts of a model, their ranges and their number; any value in place of a part."""

import copy
import unittest

from eventsim.models import is_model
from tests.samples import (
    BELT, IDLE, NOT_INTEGERS, NOT_STRINGS, NOT_TUPLES, RICH, SHOP, places, replaced, solo, words,
)


class ModelCase(unittest.TestCase):

    def yes(self, thing):
        self.assertIs(is_model(thing), True, thing)

    def no(self, thing):
        self.assertIs(is_model(thing), False, thing)


class Documented(ModelCase):

    def test_models_of_the_document(self):
        self.yes(SHOP)
        self.yes(BELT)
        self.yes(IDLE)
        self.yes(RICH)
        self.yes((
            (("fifo", 1), ("fifo", 1)), (), (),
            (
                (("take", 0, 0), ("wait", 1), ("take", 1, 0), ("give", 1), ("give", 0)),
                (("take", 1, 0), ("wait", 1), ("take", 0, 0), ("give", 0), ("give", 1)),
            ),
        ))

    def test_examples_of_the_document(self):
        self.no(((), (), (), ((("forever", (("mark", 1),)),),)))
        self.no(((("rank", 2),), (), (), ((("take", 0, 1), ("wait", 4)),)))

    def test_argument_by_name(self):
        self.assertIs(is_model(thing=SHOP), True)
        self.assertIs(is_model(thing=None), False)

    def test_again_and_unchanged(self):
        thing = [[("fifo", 1)], {"a": [1]}, (), ((),)]
        before = copy.deepcopy(thing)
        self.no(thing)
        self.no(thing)
        self.assertEqual(thing, before)
        self.yes(RICH)
        self.yes(RICH)


class Resources(ModelCase):

    def model(self, *resources):
        return (resources, (), (), ((),))

    def test_disciplines(self):
        for discipline in ("fifo", "rank", "preempt"):
            self.yes(self.model((discipline, 1)))
        for discipline in ("", "lifo", "Fifo", "FIFO", "fifo ", " rank", "fif", "ifo", "fiforank", "open"):
            self.no(self.model((discipline, 1)))

    def test_units(self):
        for units in (1, 2, 3):
            self.yes(self.model(("rank", units)))
        for units in (0, 4, -1, 5, 999999999999):
            self.no(self.model(("rank", units)))

    def test_how_many(self):
        for many in range(5):
            self.yes(self.model(*[("fifo", 1)] * many))
        for many in (5, 6, 12):
            self.no(self.model(*[("fifo", 1)] * many))

    def test_one_wrong_among_others(self):
        for at in range(4):
            resources = [("fifo", 1), ("rank", 2), ("preempt", 3), ("fifo", 3)]
            resources[at] = ("fifo", 0)
            self.no(self.model(*resources))

    def test_pairs(self):
        self.no(self.model(("fifo",)))
        self.no(self.model(("fifo", 1, 1)))
        self.no(self.model(()))
        self.no(self.model((1, "fifo")))


class Stores(ModelCase):

    def model(self, *stores):
        return ((), stores, (), ((),))

    def test_capacity(self):
        for capacity in (1, 2, 3, 4):
            self.yes(self.model((capacity, ())))
        for capacity in (0, 5, -1, 6):
            self.no(self.model((capacity, ())))

    def test_number_of_items(self):
        for capacity in (1, 2, 3, 4):
            for many in range(7):
                self.assertIs(is_model(self.model((capacity, (8,) * many))), many <= capacity)

    def test_range_of_items(self):
        for item in (0, 1, 98, 99):
            self.yes(self.model((2, (item,))))
            self.yes(self.model((2, (5, item))))
        for item in (-1, 100, 101, 999999999999):
            self.no(self.model((2, (item,))))
            self.no(self.model((2, (item, 5))))
            self.no(self.model((2, (5, item))))

    def test_how_many(self):
        for many in range(4):
            self.yes(self.model(*[(1, ())] * many))
        for many in (4, 5):
            self.no(self.model(*[(1, ())] * many))

    def test_pairs(self):
        self.no(self.model((1,)))
        self.no(self.model((1, (), ())))
        self.no(self.model(()))
        self.no(self.model((1, 5)))
        self.no(self.model(((), 1)))


class Gates(ModelCase):

    def model(self, *gates):
        return ((), (), gates, ((),))

    def test_words(self):
        for word in ("open", "shut"):
            self.yes(self.model(word))
        for word in ("", "closed", "Open", "shut ", "ope", "openshut", "fifo"):
            self.no(self.model(word))

    def test_how_many(self):
        for many in range(4):
            self.yes(self.model(*["shut"] * many))
        for many in (4, 5):
            self.no(self.model(*["shut"] * many))

    def test_string_instead_of_tuple(self):
        self.no(((), (), "open", ((),)))
        self.no(((), (), "", ((),)))


class Scripts(ModelCase):

    def test_how_many(self):
        self.no(((), (), (), ()))
        for many in range(1, 7):
            self.yes(((), (), (), ((),) * many))
        for many in (7, 8):
            self.no(((), (), (), ((),) * many))

    def test_long_scripts(self):
        self.yes(solo(*words(*range(40))))
        self.yes(solo(("repeat", 1, words(*range(40)))))

    def test_script_is_no_instruction(self):
        self.no(((), (), (), ("wait", 1)))
        self.no(((), (), (), (("wait", 1),)))
        self.yes(((), (), (), ((("wait", 1),),)))

    def test_wrong_script_among_others(self):
        for at in range(6):
            scripts = [()] * 6
            scripts[at] = (("wait", -1),)
            self.no(((), (), (), tuple(scripts)))


class Instructions(ModelCase):

    def both(self, instruction, expected):
        """The instruction alone, among others, and in bodies."""
        take_or_give = ()
        if expected and instruction[0] == "take":
            take_or_give = (("give", instruction[1]),)
        for script in (
            (instruction, *take_or_give),
            (("mark", 1), instruction, *take_or_give, ("mark", 2)),
            (("repeat", 0, (instruction, *take_or_give)),),
            (("forever", (("wait", 1), instruction, *take_or_give)),),
        ):
            self.assertIs(is_model(solo(*script)), expected, script)

    def test_wait(self):
        for time in (0, 1, 100, 101, 999999999999, 10 ** 30):
            self.both(("wait", time), True)
        for time in (-1, -100, "1", None):
            self.both(("wait", time), False)

    def test_take(self):
        for resource in range(4):
            for rank in (0, 1, 8, 9):
                self.both(("take", resource, rank), True)
        for resource in (-1, 4, 5):
            self.both(("take", resource, 0), False)
        for rank in (-1, 10, 11):
            self.both(("take", 0, rank), False)

    def test_give(self):
        for resource in range(4):
            self.yes(solo(("take", resource, 0), ("give", resource)))
        for resource in (-1, 4, 5):
            self.no(solo(("take", 3, 0), ("give", resource)))
            self.both(("give", resource), False)

    def test_take_that_does_not_exist_is_not_counted_away(self):
        for resource in (-1, 4, 5):
            self.no(solo(("take", resource, 0), ("give", resource)))

    def test_put(self):
        for store in range(3):
            for item in (0, 1, 98, 99):
                self.both(("put", store, item), True)
        for store in (-1, 3, 4):
            self.both(("put", store, 0), False)
        for item in (-1, 100, 101):
            self.both(("put", 0, item), False)

    def test_get(self):
        for store in range(3):
            self.both(("get", store), True)
        for store in (-1, 3, 4):
            self.both(("get", store), False)

    def test_gates(self):
        for word in ("pass", "open", "shut"):
            for gate in range(3):
                self.both((word, gate), True)
            for gate in (-1, 3, 4):
                self.both((word, gate), False)

    def test_rouse(self):
        for process in range(3):
            self.both(("rouse", process), True)
        for process in (-1, 3, 4, 5, 6):
            self.both(("rouse", process), False)
        self.yes(((), (), (), ((("rouse", 5),), (), (), (), (), ())))

    def test_mark(self):
        for number in (0, 1, 998, 999):
            self.both(("mark", number), True)
        for number in (-1, 1000, 1001):
            self.both(("mark", number), False)

    def test_parts_that_do_not_exist_at_all(self):
        for instruction in (
            ("put", 0, 0), ("get", 0), ("pass", 0), ("open", 0), ("shut", 0), ("rouse", 1),
            ("repeat", 1, (("get", 0),)), ("repeat", 0, (("pass", 0),)),
        ):
            self.no(((), (), (), ((instruction,),)))
        self.no(((), (), (), ((("take", 0, 0), ("give", 0)),)))
        self.yes(((), (), (), ((("rouse", 0),),)))

    def test_each_number_refers_to_its_own_parts(self):
        one_each = ((("fifo", 1),), ((1, ()), (1, ())), ("open", "open", "open"), None)
        scripts = {
            (("take", 0, 0), ("give", 0)): True,
            (("take", 1, 0), ("give", 1)): False,
            (("put", 1, 0),): True,
            (("put", 2, 0),): False,
            (("get", 1),): True,
            (("get", 2),): False,
            (("pass", 2),): True,
            (("open", 2),): True,
            (("shut", 2),): True,
            (("pass", 3),): False,
            (("rouse", 3),): True,
            (("rouse", 4),): False,
        }
        for script, expected in scripts.items():
            model = one_each[:3] + ((script, (), (), ()),)
            self.assertIs(is_model(model), expected, script)

    def test_unknown_words(self):
        for word in ("", "halt", "Wait", "WAIT", "wait ", "waits", "end", "fifo", "lose", "hold", "resource"):
            for instruction in ((word,), (word, 1), (word, 0, 1), (word, 1, (("mark", 1),))):
                self.both(instruction, False)

    def test_lengths(self):
        right = (
            ("wait", 1), ("put", 0, 1), ("get", 0), ("pass", 0), ("open", 0), ("shut", 0),
            ("rouse", 0), ("mark", 1), ("repeat", 1, (("mark", 1),)),
        )
        for instruction in right:
            self.yes(solo(instruction))
            for length in range(len(instruction)):
                self.no(solo(instruction[:length]))
            for more in (0, 1, None, "wait", (("mark", 1),)):
                self.no(solo(instruction + (more,)))
        self.no(solo(("take", 0), ("give", 0)))
        self.no(solo(("take", 0, 0, 0), ("give", 0)))
        self.no(solo(("take", 0, 0), ("give",)))
        self.no(solo(("take", 0, 0), ("give", 0, 0)))
        self.no(solo(("forever", (("wait", 1),), 1)))
        self.no(solo(("forever", 1, (("wait", 1),))))
        self.no(solo(("forever",)))


class Bodies(ModelCase):

    def nested(self, depth, inner=("mark", 1)):
        for _ in range(depth):
            inner = ("repeat", 2, (inner,))
        return inner

    def test_times(self):
        for times in range(6):
            self.yes(solo(("repeat", times, (("mark", 1),))))
            self.yes(solo(("forever", (("wait", 1), ("repeat", times, (("mark", 1),))))))
        for times in (-1, 6, 7):
            self.no(solo(("repeat", times, (("mark", 1),))))
            self.no(solo(("forever", (("wait", 1), ("repeat", times, (("mark", 1),))))))

    def test_empty_bodies(self):
        for times in range(6):
            self.no(solo(("repeat", times, ())))
            self.no(solo(("repeat", 0, (("repeat", times, ()),))))
            self.no(solo(("forever", (("wait", 1), ("repeat", times, ())))))
        self.no(solo(("forever", ())))

    def test_three_deep(self):
        for depth in (1, 2, 3):
            self.yes(solo(self.nested(depth)))
            self.yes(solo(("mark", 0), self.nested(depth), ("mark", 2), self.nested(depth)))

    def test_four_deep(self):
        for depth in (4, 5, 6):
            self.no(solo(self.nested(depth)))
            self.no(solo(("mark", 0), self.nested(1), self.nested(depth)))

    def test_times_of_nothing_count_for_the_depth(self):
        body = ("repeat", 0, (("repeat", 0, (("repeat", 0, (("mark", 1),)),)),))
        self.yes(solo(body))
        self.no(solo(("repeat", 0, (body,))))

    def test_depth_below_forever(self):
        for depth in (1, 2):
            self.yes(solo(("forever", (("wait", 1), self.nested(depth)))))
            self.yes(solo(("forever", (self.nested(depth), ("wait", 1)))))
        for depth in (3, 4):
            self.no(solo(("forever", (("wait", 1), self.nested(depth)))))
            self.no(solo(("forever", (self.nested(depth), ("wait", 1)))))

    def test_depth_before_forever(self):
        endless = ("forever", (("wait", 1),))
        for depth in (1, 2, 3):
            self.yes(solo(self.nested(depth), endless))
        for depth in (4, 5):
            self.no(solo(self.nested(depth), endless))

    def test_several_beside_one_another_in_a_body(self):
        two = self.nested(2)
        self.yes(solo(("repeat", 1, (two, ("mark", 1), two))))
        self.no(solo(("repeat", 1, (two, ("mark", 1), self.nested(3)))))

    def test_forever_in_a_body(self):
        endless = ("forever", (("wait", 1),))
        self.yes(solo(endless))
        for times in range(6):
            self.no(solo(("repeat", times, (endless,))))
            self.no(solo(("repeat", times, (("mark", 1), endless))))
        self.no(solo(("forever", (("wait", 1), endless))))
        self.no(solo(("forever", (endless,))))
        self.no(solo(("forever", (("wait", 1), ("repeat", 1, (endless,))))))

    def test_forever_that_is_not_last(self):
        endless = ("forever", (("wait", 1),))
        self.yes(solo(("mark", 1), endless))
        self.no(solo(endless, ("mark", 1)))
        self.no(solo(endless, endless))
        self.no(solo(("mark", 1), endless, ("mark", 1)))
        self.no(solo(endless, ("repeat", 0, (("mark", 1),))))

    def test_forever_in_each_script(self):
        endless = (("forever", (("wait", 1),)),)
        self.yes(((), (), (), (endless,) * 6))
        self.no(((), (), (), (endless, endless + endless)))

    def test_a_body_is_a_script(self):
        for body in (
            ("mark", 1), (("mark", 1), ("mark",)), (("mark", 1), ()), ((("mark", 1),),), [("mark", 1)],
            ("mark",), "mark", 1, None, True, {}, {("mark", 1): 1}, (None,), (1,), ([],), (["mark", 1],),
        ):
            self.no(solo(("repeat", 1, body)))
            self.no(solo(("repeat", 0, body)))
            self.no(solo(("repeat", 1, (("repeat", 1, body),))))
            self.no(solo(("forever", body)))
            self.no(solo(("forever", (("wait", 1), ("repeat", 1, body)))))


class AnyValue(ModelCase):

    def test_in_place_of_a_model(self):
        for thing in NOT_TUPLES + NOT_STRINGS + NOT_INTEGERS:
            self.no(thing)
        for thing in (
            list(SHOP), {0: (), 1: (), 2: (), 3: ((),)}, "shop", (None,) * 4, (0,) * 4, ("",) * 4, ((),) * 4,
            ([], [], [], [()]), (True, False, True, False), ({}, {}, {}, {}), ("", "", "", "a"),
            SHOP[:3], SHOP + ((),), (SHOP,), [SHOP], SHOP * 2, SHOP[::-1],
        ):
            self.no(thing)

    def test_deep_values(self):
        for wrap in (lambda x: (x,), lambda x: [x], lambda x: {"a": x}, lambda x: ("repeat", 1, (x,))):
            thing = 1
            for _ in range(12):
                self.no(thing)
                self.no((thing, thing, thing, thing))
                self.no(((), (), (), (thing,)))
                self.no(((), (), (), ((thing,),)))
                thing = wrap(thing)

    def test_in_place_of_each_integer(self):
        for path, part in places(RICH):
            if isinstance(part, int):
                for value in NOT_INTEGERS:
                    self.no(replaced(RICH, path, value))

    def test_in_place_of_each_string(self):
        for path, part in places(RICH):
            if isinstance(part, str):
                for value in NOT_STRINGS + ("", part + " ", part.upper(), part + part, part[1:]):
                    self.no(replaced(RICH, path, value))

    def test_in_place_of_each_tuple(self):
        for path, part in places(RICH):
            if isinstance(part, tuple):
                for value in NOT_TUPLES + (list(part), [part], (part,), dict(enumerate(part)), str(part)):
                    self.no(replaced(RICH, path, value))

    def test_a_wrong_part_more_in_each_tuple(self):
        for path, part in places(RICH):
            if isinstance(part, tuple):
                for more in (None, True, -1, "", "wait", [], {}):
                    self.no(replaced(RICH, path, part + (more,)))
                    self.no(replaced(RICH, path, (more,) + part))

    def test_a_part_less_in_each_tuple_of_fixed_length(self):
        for path, part in places(RICH):
            is_pair = len(path) == 2 and path[0] < 2
            if path == () or is_pair or is_instruction(path, part):
                for length in range(len(part)):
                    self.no(replaced(RICH, path, part[:length]))

    def test_the_rich_model_has_all_instructions(self):
        found = {part[0] for path, part in places(RICH) if is_instruction(path, part)}
        self.assertEqual(found, {
            "wait", "take", "give", "put", "get", "pass", "open", "shut", "rouse", "mark", "repeat", "forever",
        })


def is_instruction(path, part):
    """Whether a part of a model, at this path, is an instruction."""
    return len(path) > 2 and path[0] == 3 and isinstance(part, tuple) and isinstance(part[0], str)


if __name__ == "__main__":
    unittest.main()
