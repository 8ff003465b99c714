"""Points [20] and [21]: many orders of operations, beside a plain list of numbered requests."""

import itertools
import random
import unittest

from eventsim.errors import HoldError
from eventsim.queues import Line, PreemptLine, RankLine

CLASSES = (Line, RankLine, PreemptLine)


class Plain:
    """The requests as dicts with their numbers, served by looking at all of them."""

    def __init__(self, kind, units):
        self.kind = kind
        self.units = units
        self.requests = []
        self.next_number = 0

    def held(self):
        return [row for row in self.requests if row["holds"]]

    def line(self):
        waiting = [row for row in self.requests if not row["holds"]]
        if self.kind is Line:
            return sorted(waiting, key=lambda row: row["number"])
        return sorted(waiting, key=lambda row: (row["rank"], row["number"]))

    def add(self, process, rank, holds):
        self.requests.append({"process": process, "rank": rank, "holds": holds, "number": self.next_number})
        self.next_number += 1

    def request(self, process, rank):
        holds = len(self.held()) < self.units
        self.add(process, rank, holds)
        return holds

    def release(self, process):
        own = [row for row in self.held() if row["process"] == process]
        if not own:
            return HoldError
        self.requests.remove(max(own, key=lambda row: row["number"]))
        line = self.line()
        if not line:
            return None
        line[0]["holds"] = True
        return line[0]["process"]

    def preempt(self, process, rank, victims):
        found = [row for row in self.held() if row["rank"] > rank and row["process"] in victims]
        if len(self.held()) < self.units or not found:
            return None
        chosen = max(found, key=lambda row: (row["rank"], row["number"]))
        chosen["holds"] = False
        self.add(process, rank, True)
        return chosen["process"]

    def shown(self):
        held = sorted(self.held(), key=lambda row: row["number"])
        line = self.line()
        return (
            tuple((row["rank"], row["process"]) for row in held),
            tuple((row["rank"], row["process"]) for row in line),
            self.units - len(held),
            len(line),
            f"{self.kind.__name__}({self.units} units, {len(line)} waiting)",
        )

    def compared(self):
        return [
            (row["rank"], row["process"], row["holds"])
            for row in sorted(self.requests, key=lambda row: row["number"])
        ]


def shown(line):
    return (line.holders(), line.waiting(), line.free, line.length, repr(line))


def outcome(line, name, arguments):
    try:
        return getattr(line, name)(*arguments)
    except HoldError:
        return HoldError


class Orders(unittest.TestCase):

    def follow(self, kind, units, operations):
        """Do the operations to a line and to the plain list; both must always agree."""
        line, plain = kind(units), Plain(kind, units)
        for name, *arguments in operations:
            expected = getattr(plain, name)(*arguments)
            found = outcome(line, name, arguments)
            self.assertEqual((type(found), found), (type(expected), expected), (kind, units, operations))
            self.assertEqual(shown(line), plain.shown(), (kind, units, operations))
        return line, plain

    def test_all_short_orders(self):
        common = [("request", process, rank) for process in (0, 1) for rank in (2, 3)]
        common += [("release", process) for process in (0, 1)]
        more = [("preempt", process, rank, victims)
                for process, rank in ((0, 1), (1, 2)) for victims in ((0,), (1, 0))]
        for units in (1, 2):
            for kind in CLASSES:
                choice = common + (more if kind is PreemptLine else [])
                for operations in itertools.product(choice, repeat=4):
                    self.follow(kind, units, operations)

    def test_long_random_orders(self):
        for seed in range(150):
            chance = random.Random(seed)
            for kind in CLASSES:
                self.follow(kind, chance.randint(1, 3), self.operations(chance, kind, 60))

    def operations(self, chance, kind, many):
        names = ["request", "request", "release"] + ["preempt"] * (kind is PreemptLine)
        found = []
        for _ in range(many):
            name = chance.choice(names)
            process, rank = chance.randint(0, 5), chance.choice((0, 1, 4, 5, 5, 9))
            if name == "release":
                found.append((name, process))
            elif name == "request":
                found.append((name, process, rank))
            else:
                victims = tuple(chance.randint(0, 5) for _ in range(chance.randint(0, 6)))
                found.append((name, process, rank, victims))
        return found

    def test_equality_follows_the_requests(self):
        for kind in CLASSES:
            chance = random.Random(7)
            pairs = [self.follow(kind, chance.randint(1, 2), self.few(chance, kind)) for _ in range(250)]
            equal = 0
            for (one, plain), (other, beside) in itertools.combinations(pairs, 2):
                expected = plain.units == beside.units and plain.compared() == beside.compared()
                equal += expected
                self.assertIs(one == other, expected)
                self.assertIs(one != other, not expected)
            self.assertGreater(equal, 50)

    def few(self, chance, kind):
        choice = [("request", 0, 1), ("request", 1, 1), ("request", 0, 2), ("release", 0), ("release", 1)]
        if kind is PreemptLine:
            choice.append(("preempt", 1, 0, (0, 1)))
        return [chance.choice(choice) for _ in range(chance.randint(0, 6))]


if __name__ == "__main__":
    unittest.main()
