"""Point [91]: format_event and parse_event."""

import unittest

from eventsim.errors import ParseError
from eventsim.texts import format_event, parse_event
from eventsim.traces import trace
from tests.random_models import random_model
from tests.samples import BELT, CROSS, NOT_STRINGS, RICH, SHOP, made

# How many numbers stand behind each word.
COUNTS = {
    "sleep": 1, "wake": 0, "hold": 1, "lose": 1, "ask": 1, "give": 1, "put": 2, "got": 2, "full": 1, "empty": 1,
    "pass": 1, "closed": 1, "open": 1, "shut": 1, "rouse": 1, "mark": 1, "end": 0,
}
LONG = "9" * 12


class Case(unittest.TestCase):

    def both(self, event, text):
        self.assertEqual(format_event(event), text)
        found = parse_event(text)
        self.assertEqual(found, event)
        self.assertIs(found.__class__, tuple)
        self.assertEqual([part.__class__ for part in found], [int, int, str] + [int] * (len(event) - 3))

    def wrong(self, value, line):
        with self.assertRaises(ParseError, msg=value) as caught:
            parse_event(value)
        self.assertIs(caught.exception.__class__, ParseError)
        self.assertEqual(caught.exception.line, line)

    def none(self, *texts):
        for text in texts:
            self.wrong(text, 0)


class Texts(Case):

    def test_example(self):
        self.both((3, 1, "hold", 0), "3 1 hold 0")

    def test_every_word(self):
        for word, count in COUNTS.items():
            for numbers in ((0, 0), (5, 7), (10, 99), (10 ** 12 - 1, 10 ** 12 - 1)):
                event = (12, 5, word, *numbers[:count])
                self.both(event, " ".join(str(part) for part in event))

    def test_all_events_of_traces(self):
        words = set()
        models = [SHOP, BELT, CROSS, RICH] + [random_model(seed) for seed in range(120)]
        for model in models:
            for event in trace(model, 20):
                self.both(event, " ".join(str(part) for part in event))
                words.add(event[2])
        self.assertEqual(words, set(COUNTS))

    def test_numbers_behind_the_word_are_of_any_size(self):
        self.both((0, 0, "hold", 4), "0 0 hold 4")
        self.both((0, 0, "hold", 10 ** 12 - 1), f"0 0 hold {LONG}")
        self.both((0, 0, "put", 99, 100), "0 0 put 99 100")
        self.both((0, 0, "rouse", 6), "0 0 rouse 6")
        self.both((0, 0, "mark", 1000), "0 0 mark 1000")
        self.both((0, 0, "sleep", 0), "0 0 sleep 0")
        self.both((999, 3, "lose", 9), "999 3 lose 9")

    def test_long_sleeps(self):
        event = trace(made(f"wait 1{'0' * 3999}"), 0)[0]
        self.assertEqual(format_event(event), "0 0 sleep 1" + "0" * 3999)
        self.wrong(format_event(event), 0)

    def test_names(self):
        self.assertEqual(format_event(event=(1, 2, "wake")), "1 2 wake")
        self.assertEqual(parse_event(text="1 2 wake"), (1, 2, "wake"))


class Wrong(Case):

    def test_no_strings(self):
        for value in (*NOT_STRINGS, (3, 1, "hold", 0), ["3 1 hold 0"], ("3 1 hold 0",)):
            self.wrong(value, -1)

    def test_times_and_numbers_of_12_and_of_13_digits(self):
        self.both((10 ** 12 - 1, 0, "wake"), f"{LONG} 0 wake")
        self.none(f"{LONG}9 0 wake", "1000000000000 0 wake", f"0 0 hold {LONG}9", f"0 0 put 0 {LONG}9",
                  f"0 0 put {LONG}9 0", "0 0 sleep 1000000000000", "9" * 4000 + " 0 wake", "0 0 mark " + "9" * 4000)

    def test_processes(self):
        for process in range(6):
            self.both((0, process, "end"), f"0 {process} end")
        self.none("0 6 end", "0 7 end", "0 10 end", f"0 {LONG} end", "0 -1 end", "0 00 end", "0 01 end", "0  end",
                  "0 end", "0 x end")

    def test_words(self):
        self.none("0 0 take 0", "0 0 get 0", "0 0 wait 1", "0 0 Hold 0", "0 0 hold: 0", "0 0 holds 0", "0 0 wants 0",
                  "0 0 ready", "0 0 finished", "0 0 0", "0 0", "0", "", "hold", "hold 0", "0 hold 0", "0 0  ", "0 0 ",
                  "0 0 repeat 1", "0 0 forever", "0 0 process", "0 0 asleep 1")

    def test_how_many_numbers(self):
        for word, count in COUNTS.items():
            for many in range(5):
                text = " ".join(["1", "2", word] + ["3"] * many)
                if many == count:
                    self.assertEqual(len(parse_event(text)), 3 + count)
                else:
                    self.none(text)

    def test_spaces_and_line_feeds(self):
        self.none(" 3 1 hold 0", "3 1 hold 0 ", "3  1 hold 0", "3 1  hold 0", "3 1 hold  0", "3 1 hold 0\n",
                  "\n3 1 hold 0", "3 1 hold\n0", "3\n1\nhold\n0", "3 1 wake ", "3 1 wake\n", " ", "\n", "3 1 hold 0\n3 1 wake",
                  "3,1,hold,0", "(3, 1, 'hold', 0)", "3\t1\thold\t0")

    def test_how_numbers_are_written(self):
        for number in ("00", "01", "+1", "-1", "-0", "1.0", "1e1", "0x1", "1_0", "one", "", "True", "None", "1,", "'1'"):
            self.none(f"{number} 0 wake", f"0 {number} wake", f"0 0 hold {number}", f"0 0 put {number} 0",
                      f"0 0 put 0 {number}")
        self.none("\u0661 0 wake", "0 0 hold \u00b2")


if __name__ == "__main__":
    unittest.main()
