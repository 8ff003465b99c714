"""The classes of eventsim.errors: their bases, attributes and messages."""

import unittest

from eventsim import errors
from eventsim.errors import EventsimError, LimitError, ParseError

WITH_MESSAGE = ("ModelError", "NumberError", "SituationError", "HoldError", "CommandError", "UndoError")


class Bases(unittest.TestCase):

    def test_base_is_a_value_error(self):
        self.assertEqual(EventsimError.__bases__, (ValueError,))

    def test_all_others_are_direct_subclasses(self):
        for name in WITH_MESSAGE + ("ParseError", "LimitError"):
            with self.subTest(name=name):
                self.assertEqual(getattr(errors, name).__bases__, (EventsimError,))

    def test_classes_are_defined_in_this_file(self):
        for name in WITH_MESSAGE + ("EventsimError", "ParseError", "LimitError"):
            with self.subTest(name=name):
                self.assertEqual(getattr(errors, name).__module__, "eventsim.errors")


class Contents(unittest.TestCase):

    def test_constructed_with_a_message(self):
        for name in WITH_MESSAGE + ("EventsimError",):
            with self.subTest(name=name):
                self.assertEqual(str(getattr(errors, name)("so it is")), "so it is")

    def test_parse_error_has_a_line(self):
        for line in (0, 7, -1):
            self.assertEqual(ParseError(line).line, line)
            self.assertEqual(ParseError(line=line).line, line)

    def test_limit_error_has_a_limit(self):
        for limit in (3, 4, 6, 3000):
            self.assertEqual(LimitError(limit).limit, limit)
            self.assertEqual(LimitError(limit=limit).limit, limit)

    def test_each_object_has_its_own_attribute(self):
        one, other = ParseError(1), ParseError(2)
        self.assertEqual((one.line, other.line), (1, 2))
        one, other = LimitError(3), LimitError(6)
        self.assertEqual((one.limit, other.limit), (3, 6))

    def test_caught_as_their_base(self):
        for error in (ParseError(1), LimitError(3), errors.HoldError("none")):
            with self.assertRaises(EventsimError) as caught:
                raise error
            self.assertIs(caught.exception, error)


if __name__ == "__main__":
    unittest.main()
