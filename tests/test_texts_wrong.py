"""Point [90]: parse_model of everything that is no text of a model."""

import random
import unittest

from eventsim.errors import ParseError
from eventsim.models import is_model
from eventsim.texts import format_model, parse_model
from tests.grammar import wrong_line
from tests.random_models import random_model
from tests.samples import NOT_STRINGS, RICH, SHOP
from tests.test_texts_models import TEXT

HEAD = ["resource fifo 1", "resource rank 2", "store 2 5", "gate shut", "gate open"]


class Case(unittest.TestCase):

    def wrong(self, text, line):
        with self.assertRaises(ParseError, msg=text) as caught:
            parse_model(text)
        self.assertIs(caught.exception.__class__, ParseError)
        self.assertEqual(caught.exception.line, line, text)
        self.assertIs(caught.exception.line.__class__, int)

    def bad_lines(self, before, *lines, behind=("process",)):
        """Each of these lines is wrong behind those before, whatever follows."""
        for line in lines:
            self.wrong("\n".join([*before, line]), len(before))
            self.wrong("\n".join([*before, line, *behind]), len(before))
            self.wrong("\n".join([*before, line, "nonsense"]), len(before))

    def good_lines(self, before, *lines, behind=()):
        for line in lines:
            self.assertTrue(is_model(parse_model("\n".join([*before, line, *behind]))))


class NoStrings(Case):

    def test_minus_1(self):
        for value in (*NOT_STRINGS, SHOP, RICH, TEXT.split("\n"), (TEXT,), [TEXT], {TEXT: 1}):
            self.wrong(value, -1)


class Words(Case):

    def test_the_empty_text(self):
        self.wrong("", 0)

    def test_unknown_words(self):
        lines = ("", " ", "  ", "resources fifo 1", "Resource fifo 1", "place 1", "5", "-", "process1", "Process",
                 "resource", "store", "gate", "wait 1", "end", "forever", "repeat 1", "text\ttext")
        self.bad_lines([], *lines)
        self.bad_lines(HEAD, *lines)
        self.bad_lines(["process"], "", " ", "sleep 1", "wait1", "Wait 1", "ask 0", "hold 0", "got 0 1", "lose 0",
                       "full 0", "empty 0", "closed 0", "wake", "1 wait", "5", "wait:1", "put-0-1", "ends", "Forever")

    def test_empty_lines(self):
        self.wrong("\nprocess", 0)
        self.wrong("process\n", 1)
        self.wrong("process\n\n", 1)
        self.wrong("process\n\nwait 1", 1)
        self.wrong("\n", 0)
        self.wrong("\n" + TEXT, 0)
        self.wrong(TEXT + "\n", 13)
        self.wrong(TEXT.replace("\n", "\n\n"), 1)

    def test_spaces(self):
        lines = TEXT.split("\n")
        for at, line in enumerate(lines):
            for value in (" " + line, line + " ", line + "  ", line.replace(" ", "  ", 1), line.replace(" ", "\t", 1)):
                if value != line:
                    self.wrong("\n".join([*lines[:at], value, *lines[at + 1:]]), at)

    def test_line_feeds_alone_separate_lines(self):
        self.wrong("process wait 1", 0)
        self.wrong("process\nwait 1 wait 2", 1)
        self.wrong("process\r\nwait 1", 0)


class Numbers(Case):

    def test_missing_or_too_many(self):
        before = HEAD + ["process"]
        for line in ("wait 1", "take 0 1", "give 0", "put 0 5", "get 0", "pass 0", "open 0", "shut 1", "rouse 0",
                     "mark 5"):
            word, *numbers = line.split(" ")
            for many in range(5):
                if many != len(numbers):
                    self.bad_lines(before, " ".join([word] + ["0"] * many))
        self.bad_lines(before, "repeat", "repeat 1 1", "repeat 1 1 1", "forever 1", "forever 0", "process 1",
                       "process 0", behind=("wait 1", "end"))
        self.bad_lines(before + ["repeat 1", "mark 1"], "end 1", "end 0", "end 0 0")

    def test_of_the_first_lines(self):
        self.bad_lines([], "resource", "resource fifo", "resource 1", "resource 1 fifo", "resource fifo 1 1",
                       "resource fifo fifo", "resource fifo one", "store", "store 1 1 1", "store one", "store 4 a",
                       "gate", "gate 1", "gate open 1", "gate open open", "gate open shut", "process 1")

    def test_leading_zeros(self):
        before = HEAD + ["process"]
        self.bad_lines(before, "wait 00", "wait 01", "wait 007", "take 00 1", "take 0 01", "put 0 05", "put 00 5",
                       "get 00", "mark 010", "rouse 00", "repeat 01", "repeat 00")
        self.good_lines(before, "wait 0", "wait 10", "wait 100", "mark 0", "mark 100", "put 0 0", "put 0 10")
        self.bad_lines([], "resource fifo 01", "store 02 5", "store 2 05", "store 2 00")

    def test_other_writings(self):
        for number in ("+1", "-1", "-0", "1.0", "1_0", "1e1", "0x1", "one", "1,", "(1)", "1.", "'1'", "true", "True",
                       "None", "a1", "1a", ".", "#"):
            self.bad_lines(HEAD + ["process"], "wait " + number, "mark " + number, "get " + number,
                           "take 0 " + number, "take " + number + " 0", "repeat " + number)
            self.bad_lines([], "resource fifo " + number, "store " + number, "store 2 " + number)

    def test_digits_that_are_not_ascii(self):
        for number in ("\u00b2", "\u0661", "\uff11"):
            self.bad_lines(["process"], "wait " + number)

    def test_out_of_range(self):
        before = HEAD + ["process"]
        self.bad_lines(before, "take 2 0", "take 0 10", "take 0 11", "give 2", "put 1 5", "put 0 100", "get 1",
                       "pass 2", "open 2", "shut 2", "rouse 6", "rouse 7", "mark 1000", "repeat 6", "repeat 7",
                       "mark 999999999999", "give 999999999999", "rouse 1000000000000")
        self.good_lines(before, "take 1 9\ngive 1", "take 0 0\ngive 0", "put 0 99", "put 0 0", "get 0", "pass 1",
                        "open 0", "shut 1", "mark 999", "mark 0", "repeat 5\nmark 0\nend", "repeat 0\nmark 0\nend")
        self.bad_lines([], "resource fifo 0", "resource fifo 4", "resource rank 10", "resource preempt 0", "store 0",
                       "store 5", "store 5 1 2 3 4", "store 10", "store 1 100", "store 4 0 0 0 100", "store 0 1")
        self.good_lines([], "resource fifo 1", "resource rank 3", "resource preempt 2", "store 1", "store 4",
                        "store 1 99", "store 4 0 0 0 99", behind=("process",))

    def test_too_many_items(self):
        for capacity in range(1, 5):
            good = f"store {capacity}" + " 1" * capacity
            self.good_lines([], good, behind=("process",))
            self.bad_lines([], good + " 1", good + " 1 1")

    def test_parts_that_do_not_exist(self):
        self.bad_lines(["process"], "take 0 0", "give 0", "put 0 0", "get 0", "pass 0", "open 0", "shut 0")
        for number in range(4):
            head = ["resource fifo 1"] * number + ["store 1"] * min(number, 3) + ["gate open"] * min(number, 3)
            for line in ("take {} 0", "give {}"):
                self.bad_lines(head + ["process"], line.format(number), line.format(number + 1))
            for line in ("put {} 0", "get {}", "pass {}", "open {}", "shut {}"):
                self.bad_lines(head + ["process"], line.format(number), line.format(number + 1))


class Places(Case):

    def test_parts_in_the_wrong_place(self):
        self.bad_lines(["store 1"], "resource fifo 1")
        self.bad_lines(["gate open"], "resource fifo 1", "store 1")
        self.bad_lines(["resource fifo 1", "store 1", "gate open"], "resource fifo 1", "store 1")
        self.bad_lines(["process"], "resource fifo 1", "store 1", "gate open")
        self.bad_lines(["process", "wait 1"], "resource fifo 1", "store 1", "gate open")
        self.bad_lines(["process", "repeat 1", "wait 1"], "resource fifo 1", "store 1", "gate open", "process")
        self.bad_lines(["resource fifo 1"], "wait 1", "take 0 0", "repeat 1", "forever", "end")

    def test_too_many_parts(self):
        self.bad_lines(["resource fifo 1"] * 4, "resource fifo 1")
        self.bad_lines(["resource fifo 1"] * 4 + ["store 1"] * 3, "store 1")
        self.bad_lines(["gate open"] * 3, "gate shut")
        self.bad_lines(["process"] * 6, "process")
        self.bad_lines(["process", "wait 1"] * 6, "process")
        self.bad_lines(["process", "wait 1"] * 5 + ["process", "forever", "wait 1", "end"], "process", "wait 1", "end")

    def test_bodies_without_a_line(self):
        for before in (["process"], ["process", "wait 1"], ["process", "repeat 1", "wait 1"],
                       ["process", "repeat 1", "repeat 2"]):
            self.bad_lines(before + ["repeat 3"], "end")
        self.bad_lines(["process", "forever"], "end")
        self.bad_lines(["process", "forever", "wait 1", "repeat 2"], "end")
        self.bad_lines(["process", "repeat 0"], "end")

    def test_ends_that_are_too_many(self):
        self.bad_lines(["process"], "end")
        self.bad_lines(["process", "wait 1"], "end")
        self.bad_lines(["process", "repeat 1", "wait 1", "end"], "end")
        self.bad_lines(["process", "forever", "wait 1", "end"], "end")
        self.bad_lines(["process", "repeat 1", "wait 1", "end", "process"], "end")

    def test_ends_that_are_missing(self):
        self.wrong("process\nrepeat 1", 2)
        self.wrong("process\nrepeat 1\nwait 1", 3)
        self.wrong("process\nforever", 2)
        self.wrong("process\nforever\nwait 1\nrepeat 2\nwait 1\nend", 6)
        self.wrong("process\nrepeat 1\nrepeat 1\nrepeat 1\nwait 1\nend\nend", 7)
        # The next process cannot begin within a body.
        self.wrong("process\nrepeat 1\nwait 1\nprocess", 3)

    def test_forever_not_at_the_end(self):
        before = ["resource fifo 1", "process", "forever", "wait 1", "end"]
        self.bad_lines(before, "wait 1", "mark 1", "forever", "repeat 1", "end", "take 0 0", "resource fifo 1")
        self.good_lines(before, "process")

    def test_forever_within_a_body(self):
        self.bad_lines(["process", "repeat 1"], "forever", behind=("wait 1", "end", "end"))
        self.bad_lines(["process", "repeat 1", "wait 1"], "forever")
        self.bad_lines(["process", "forever"], "forever")
        self.bad_lines(["process", "forever", "wait 1"], "forever")

    def test_bodies_that_are_too_deep(self):
        self.bad_lines(["process", "repeat 1", "repeat 1", "repeat 1"], "repeat 1")
        self.bad_lines(["process", "forever", "repeat 1", "repeat 1"], "repeat 1")
        self.bad_lines(["process", "repeat 1", "repeat 1", "repeat 1", "wait 1"], "repeat 1")
        self.good_lines(["process", "repeat 1", "repeat 1", "repeat 1"], "wait 1", behind=("end", "end", "end"))
        self.good_lines(["process", "repeat 1", "repeat 1", "repeat 1", "wait 1", "end"], "repeat 1",
                        behind=("wait 1", "end", "end", "end"))


class WholeTexts(Case):

    def test_that_end_too_early(self):
        for head in (["resource fifo 1"], ["store 1"], ["gate open"], HEAD, ["resource fifo 1"] * 4):
            self.wrong("\n".join(head), len(head))

    def test_processes_that_do_not_exist(self):
        self.wrong("process\nrouse 1", 2)
        self.wrong("process\nrouse 5", 2)
        self.wrong("process\nrouse 2\nprocess", 3)
        self.wrong("process\nrepeat 0\nrouse 3\nend\nprocess\nprocess", 6)
        self.wrong("\n".join(["process\nrouse 5"] + ["process"] * 4), 6)
        self.good_lines(["process", "rouse 5"] + ["process"] * 4, "process")
        self.wrong("process\nrouse 1\nforever\nwait 1\nend", 5)

    def test_balance_and_progress(self):
        for text in (
            "resource fifo 1\nprocess\ntake 0 0",
            "resource fifo 1\nprocess\ngive 0",
            "resource fifo 1\nprocess\ngive 0\ntake 0 0",
            "resource fifo 1\nprocess\nrepeat 1\ntake 0 0\nend\ngive 0",
            "resource fifo 1\nprocess\ntake 0 0\nforever\nwait 1\nend",
            "resource fifo 1\nprocess\ntake 0 0\nforever\nwait 1\ngive 0\ntake 0 0\nend\nprocess",
            "process\nforever\nmark 1\nend",
            "process\nforever\nwait 0\nend",
            "process\nforever\nrepeat 0\nwait 1\nend\nend\nprocess\nprocess\nwait 1",
        ):
            self.wrong(text, text.count("\n"))

    def test_other_faults_come_before_balance_and_progress(self):
        self.wrong("resource fifo 1\nprocess\ntake 0 0\nrouse 1", 4)
        self.wrong("process\nforever\nwait 0\nend\nprocess\nrouse 2", 6)
        self.wrong("process\nforever\nwait 0", 3)
        self.wrong("resource fifo 1\nprocess\ngive 0\nwait", 3)

    def test_the_first_wrong_line_counts(self):
        self.wrong("process\nwait x\nwait y", 1)
        self.wrong("process\nrouse 6\nwait x", 1)
        self.wrong("resource fifo 9\nstore 9\nwait", 0)

    def test_beginnings_of_a_text(self):
        lines = TEXT.split("\n")
        for many in range(1, len(lines)):
            text = "\n".join(lines[:many])
            # Up to line 3 there is no process; from there on a script is one, unless a body or a unit is missing.
            expected = {1: 1, 2: 2, 3: 3, 6: 5, 7: 7, 8: 8, 9: 8, 11: 11, 12: 12}
            if many in expected:
                self.wrong(text, expected[many])
            else:
                self.assertTrue(is_model(parse_model(text)))


class AgainstAnotherWay(Case):
    """Texts that are changed by chance, compared to all that can follow a beginning."""

    LINES = (
        "", " ", "resource fifo 1", "resource rank 3", "resource preempt 4", "store 1", "store 2 5 6", "store 1 2 3",
        "gate open", "gate shut", "gate", "process", "process 1", "end", "end ", "forever", "repeat 2", "repeat 0",
        "repeat 6", "wait 0", "wait 1", "wait", "wait 01", "mark 999", "mark 1000", "take 0 0", "take 0 10", "give 0",
        "take 3 1", "put 0 1", "put 2 1", "get 0", "get", "pass 0", "open 1", "shut 2", "rouse 0", "rouse 5", "rouse 6",
    )

    def changed(self, chance, lines):
        lines = list(lines)
        for _ in range(chance.choice((1, 1, 1, 2, 3))):
            at = chance.randrange(len(lines) + 1)
            other = chance.randrange(len(lines)) if lines else 0
            kind = chance.choice(("delete", "insert", "insert", "repeat", "swap", "cut", "number"))
            if kind == "delete":
                del lines[other:other + 1]
            elif kind == "insert":
                lines.insert(at, chance.choice(self.LINES))
            elif kind == "repeat" and lines:
                lines.insert(at, lines[other])
            elif kind == "swap" and lines:
                at = min(at, len(lines) - 1)
                lines[at], lines[other] = lines[other], lines[at]
            elif kind == "cut":
                del lines[max(other, 1):]
            elif kind == "number" and lines:
                word, *numbers = lines[other].split(" ")
                lines[other] = " ".join([word] + [str(chance.choice((0, 1, 2, 5, 9))) for _ in numbers])
        return "\n".join(lines)

    def test_changed_texts(self):
        chance = random.Random(90)
        counts = {"model": 0, "inner": 0, "behind": 0, "last": 0}
        for seed in range(450):
            lines = format_model(random_model(seed % 150, chance.randint(1, 3))).split("\n")
            text = self.changed(chance, lines[:chance.randint(4, 24)] if chance.random() < 0.3 else lines)
            expected = wrong_line(text)
            if expected is None:
                counts["model"] += 1
                self.assertEqual(format_model(parse_model(text)), text)
                continue
            self.wrong(text, expected)
            many = len(text.split("\n"))
            counts["inner" if expected < many - 1 else "last" if expected == many - 1 else "behind"] += 1
        for count in counts.values():
            self.assertGreater(count, 20)

    def test_texts_of_these_lines(self):
        chance = random.Random(91)
        for _ in range(300):
            head = HEAD[:chance.randrange(6)] if chance.random() < 0.7 else []
            rows = [chance.choice(self.LINES) for _ in range(chance.randrange(6))]
            text = "\n".join(head + ["process"] * chance.randint(0, 1) + rows)
            expected = wrong_line(text)
            if expected is not None:
                self.wrong(text, expected)


if __name__ == "__main__":
    unittest.main()
