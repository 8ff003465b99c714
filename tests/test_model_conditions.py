"""Point [11]: balance and progress."""

import itertools
import unittest

from eventsim.models import is_model
from tests.samples import solo, words

TAKE, GIVE = ("take", 0, 0), ("give", 0)
STEP = {"t": TAKE, "g": GIVE}


class ConditionCase(unittest.TestCase):

    def yes(self, *script):
        self.assertIs(is_model(solo(*script)), True, script)

    def no(self, *script):
        self.assertIs(is_model(solo(*script)), False, script)


def rises(letters):
    """The count of units behind each of the letters t and g."""
    return list(itertools.accumulate(1 if letter == "t" else -1 for letter in letters))


def is_even(letters, start=0):
    """Whether the count, beginning with start, never becomes negative and ends as it began."""
    counts = [start + rise for rise in rises(letters)]
    return min(counts, default=0) >= 0 and (counts or [start])[-1] == start


def scripts(most):
    for length in range(most + 1):
        for letters in itertools.product("tg", repeat=length):
            yield "".join(letters)


def steps(letters):
    return tuple(STEP[letter] for letter in letters)


class Balance(ConditionCase):

    def test_plain_scripts(self):
        self.yes(TAKE, GIVE)
        self.yes(TAKE, TAKE, GIVE, GIVE)
        self.yes(TAKE, GIVE, TAKE, GIVE)
        self.no(TAKE)
        self.no(GIVE)
        self.no(GIVE, TAKE)
        self.no(TAKE, GIVE, GIVE)
        self.no(TAKE, GIVE, GIVE, TAKE)
        self.no(TAKE, TAKE, GIVE)

    def test_all_short_scripts(self):
        for letters in scripts(6):
            self.assertIs(is_model(solo(*steps(letters))), is_even(letters), letters)

    def test_more_units_than_there_are(self):
        self.yes(*[TAKE] * 7, *[GIVE] * 7)

    def test_other_instructions_do_not_count(self):
        self.yes(("get", 0), TAKE, ("put", 0, 1), ("open", 0), ("wait", 5), GIVE, ("rouse", 0))
        self.no(("get", 0), TAKE, ("put", 0, 1), ("pass", 0), ("shut", 0), ("mark", 0))

    def test_each_resource_for_itself(self):
        self.yes(("take", 0, 0), ("take", 1, 0), ("give", 0), ("give", 1))
        self.yes(("take", 0, 0), ("take", 3, 0), ("give", 3), ("give", 0))
        self.no(("take", 0, 0), ("give", 1))
        self.no(("take", 1, 0), ("give", 0))
        self.no(("take", 3, 0), ("give", 2))
        self.no(("take", 0, 0), ("give", 0), ("take", 3, 0))
        self.no(("take", 0, 0), ("give", 0), ("give", 3), ("take", 3, 0))
        self.no(("take", 2, 0), ("give", 1), ("take", 1, 0), ("give", 2))

    def test_rank_does_not_matter(self):
        self.yes(("take", 0, 9), ("take", 0, 3), ("give", 0), ("give", 0))

    def test_every_script_is_checked(self):
        resources = (("fifo", 1),)
        for at in range(6):
            inner = [(TAKE, GIVE)] * 6
            self.assertIs(is_model((resources, (), (), tuple(inner))), True)
            inner[at] = (TAKE,)
            self.assertIs(is_model((resources, (), (), tuple(inner))), False)
        self.assertIs(is_model((resources, (), (), ((TAKE,), (GIVE,)))), False)


class BalanceInRepeat(ConditionCase):

    def test_body_ends_as_it_began(self):
        for times in range(6):
            self.yes(("repeat", times, (TAKE, GIVE)))
            self.yes(TAKE, ("repeat", times, (TAKE, GIVE)), GIVE)
            self.yes(TAKE, ("repeat", times, (GIVE, TAKE)), GIVE)
            self.no(("repeat", times, (GIVE, TAKE)))
            self.no(("repeat", times, (TAKE,)))
            self.no(("repeat", times, (TAKE,)), GIVE)
            self.no(TAKE, ("repeat", times, (GIVE,)))
            self.no(TAKE, ("repeat", times, (TAKE, GIVE, GIVE)))
            self.no(TAKE, ("repeat", times, (GIVE, GIVE, TAKE, TAKE)), GIVE)

    def test_counted_once(self):
        self.no(TAKE, ("repeat", 1, (GIVE,)))
        self.no(TAKE, TAKE, ("repeat", 2, (GIVE,)))
        self.no(("repeat", 3, (TAKE,)), GIVE, GIVE, GIVE)
        self.no(("repeat", 1, (TAKE,)), ("repeat", 1, (GIVE,)))
        self.no(("repeat", 0, (TAKE,)))
        self.no(("repeat", 0, (GIVE,)))

    def test_all_short_bodies(self):
        for times in (0, 1, 4):
            for before, body, behind in itertools.product(scripts(2), scripts(3), scripts(2)):
                if body:
                    start = ([0] + rises(before))[-1]
                    expected = is_even(before + behind) and is_even(body, start)
                    script = steps(before) + (("repeat", times, steps(body)),) + steps(behind)
                    self.assertIs(is_model(solo(*script)), expected, script)

    def test_body_below_a_body(self):
        inner = ("repeat", 2, (GIVE, TAKE))
        self.yes(TAKE, ("repeat", 0, (inner,)), GIVE)
        self.yes(("repeat", 0, (TAKE, inner, GIVE)))
        self.yes(("repeat", 3, (TAKE, ("repeat", 1, (inner, GIVE, TAKE)), GIVE)))
        self.no(("repeat", 0, (inner, TAKE, GIVE)))
        self.no(("repeat", 3, (TAKE, ("repeat", 1, (inner, GIVE)), GIVE)))
        self.no(TAKE, ("repeat", 0, (("repeat", 0, (GIVE, GIVE, TAKE, TAKE)),)), GIVE)
        self.no(("repeat", 1, (TAKE, ("repeat", 1, (GIVE,)))))
        self.no(("repeat", 1, (("repeat", 1, (TAKE,)), GIVE)))

    def test_last_resource_in_a_body(self):
        self.yes(("repeat", 2, (("take", 3, 0), ("give", 3))))
        self.no(("repeat", 2, (("take", 3, 0),)))
        self.no(("take", 0, 0), ("repeat", 2, (("give", 0), ("take", 3, 0))), ("give", 3))


class BalanceInForever(ConditionCase):

    def endless(self, *body):
        return ("forever", body + (("wait", 1),))

    def test_count_is_none_at_both_ends(self):
        self.yes(self.endless(TAKE, GIVE))
        self.yes(TAKE, GIVE, self.endless(TAKE, GIVE))
        self.no(TAKE, self.endless())
        self.no(TAKE, self.endless(GIVE))
        self.no(TAKE, self.endless(GIVE, TAKE))
        self.no(self.endless(TAKE))
        self.no(self.endless(GIVE))
        self.no(self.endless(GIVE, TAKE))
        self.no(self.endless(TAKE, GIVE, GIVE, TAKE))

    def test_all_short_bodies(self):
        for before, body in itertools.product(scripts(2), scripts(4)):
            expected = is_even(before) and is_even(body)
            script = steps(before) + (self.endless(*steps(body)),)
            self.assertIs(is_model(solo(*script)), expected, script)

    def test_repeat_below_forever(self):
        self.yes(self.endless(TAKE, ("repeat", 2, (GIVE, TAKE)), GIVE))
        self.no(self.endless(("repeat", 2, (GIVE, TAKE))))
        self.no(self.endless(("repeat", 0, (TAKE,)), GIVE))
        self.no(self.endless(TAKE, ("repeat", 1, (GIVE,))))


class Progress(ConditionCase):

    def test_waits_of_one_pass(self):
        self.yes(("forever", (("wait", 1),)))
        self.yes(("forever", (("wait", 100),)))
        self.yes(("forever", (("wait", 0), ("wait", 1))))
        self.yes(("forever", (("wait", 1), ("wait", 0))))
        self.yes(("forever", (("mark", 1), ("wait", 2), ("mark", 1))))
        self.no(("forever", (("wait", 0),)))
        self.no(("forever", (("wait", 0), ("wait", 0))))
        self.no(("forever", words(1, 2)))
        self.no(("forever", (("get", 0), ("put", 0, 1), ("pass", 0))))

    def test_waits_before_do_not_count(self):
        self.no(("wait", 1), ("forever", (("mark", 1),)))
        self.no(("repeat", 5, (("wait", 5),)), ("forever", (("wait", 0),)))

    def test_repeat_counts_as_often_as_executed(self):
        for times in range(1, 6):
            self.yes(("forever", (("repeat", times, (("wait", 1),)),)))
            self.no(("forever", (("repeat", times, (("wait", 0),)),)))
        self.no(("forever", (("repeat", 0, (("wait", 1),)),)))
        self.no(("forever", (("repeat", 0, (("wait", 100), ("mark", 1))), ("mark", 1))))
        self.yes(("forever", (("repeat", 0, (("wait", 1),)), ("wait", 1))))
        self.yes(("forever", (("repeat", 0, (("wait", 1),)), ("repeat", 1, (("wait", 1),)))))

    def test_repeat_within_repeat(self):
        for outer, inner in itertools.product((0, 1, 2, 5), repeat=2):
            for time in (0, 1, 3):
                expected = outer * inner * time >= 1
                body = (("repeat", outer, (("mark", 1), ("repeat", inner, (("wait", time),)))), ("mark", 2))
                self.assertIs(is_model(solo(("forever", body))), expected, body)
                body = body + (("wait", 1),)
                self.assertIs(is_model(solo(("forever", body))), True, body)

    def test_every_script_is_checked(self):
        good, bad = (("forever", (("wait", 1),)),), (("forever", (("wait", 0),)),)
        for at in range(6):
            inner = [good] * 6
            self.assertIs(is_model(((), (), (), tuple(inner))), True)
            inner[at] = bad
            self.assertIs(is_model(((), (), (), tuple(inner))), False)

    def test_scripts_without_forever_need_no_waits(self):
        self.yes()
        self.yes(("mark", 1))
        self.yes(("repeat", 5, (("mark", 1),)))

    def test_large_waits(self):
        self.yes(("forever", (("repeat", 5, (("wait", 10 ** 900),)),)))
        self.no(("forever", (("repeat", 0, (("wait", 10 ** 900),)),)))


if __name__ == "__main__":
    unittest.main()
