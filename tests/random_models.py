"""Small models made by chance from a seed, in which much happens."""

import random

from tests.samples import IDLE


class Maker:

    def __init__(self, seed, processes=None, horizon_of_waits=4):
        self.chance = random.Random(seed)
        chance = self.chance
        self.longest = horizon_of_waits
        self.processes = processes or chance.choice((1, 2, 2, 3, 3, 4, 5, 6))
        self.resources = tuple(
            (chance.choice(("fifo", "rank", "preempt", "preempt")), chance.choice((1, 1, 1, 2, 3)))
            for _ in range(chance.randrange(4))
        )
        self.stores = tuple(self.store() for _ in range(chance.randrange(3)))
        self.gates = tuple(chance.choice(("open", "shut")) for _ in range(chance.randrange(3)))

    def store(self):
        capacity = self.chance.choice((1, 1, 2, 4))
        return capacity, tuple(self.chance.randrange(100) for _ in range(self.chance.randrange(capacity + 1)))

    def model(self):
        scripts = tuple(self.script() for _ in range(self.processes))
        return self.resources, self.stores, self.gates, scripts

    def script(self):
        size = self.chance.randrange(7)
        if self.chance.random() < 0.3:
            body = self.block(size, 2) + (("wait", self.chance.randint(1, self.longest)),)
            if self.chance.random() < 0.5:
                body = body[-1:] + body[:-1]
            return self.block(2, 1) + (("forever", body),)
        return self.block(size + 2, 1)

    def block(self, size, depth):
        """Some instructions that give all units that they take."""
        rows = ()
        while len(rows) < size:
            rows += self.part(size - len(rows), depth)
        return rows

    def part(self, size, depth):
        chance = self.chance
        kind = chance.choice(("wait", "wait", "mark", "rouse", "take", "take", "take", "store", "gate", "repeat"))
        if kind == "take" and self.resources:
            return self.holding(chance.randrange(len(self.resources)), size, depth)
        if kind == "store" and self.stores:
            store = chance.randrange(len(self.stores))
            return (chance.choice((("get", store), ("put", store, chance.randrange(100)))),)
        if kind == "gate" and self.gates:
            return ((chance.choice(("pass", "pass", "open", "shut")), chance.randrange(len(self.gates))),)
        if kind == "repeat" and depth <= 3:
            return (("repeat", chance.choice((0, 1, 2, 3)), self.block(chance.randint(1, 3), depth + 1)),)
        if kind == "rouse":
            return (("rouse", chance.randrange(self.processes)),)
        if kind == "mark":
            return (("mark", chance.randrange(1000)),)
        return (("wait", chance.choice((0, 1, 1, 2, self.longest))),)


    def holding(self, resource, size, depth):
        """A unit taken and given, perhaps a second one of the same resource within, mostly with some sleep."""
        chance = self.chance
        inner = self.block(chance.randrange(max(size, 2)), depth)
        if chance.random() < 0.7:
            inner += (("wait", chance.randint(1, self.longest)),)
        if chance.random() < 0.3 and self.resources[resource][1] > 1:
            inner = (("take", resource, chance.randrange(10)), *inner, ("give", resource))
            inner += (("wait", chance.randrange(3)),)
        return (("take", resource, chance.choice((0, 1, 5, 8, 9))), *inner, ("give", resource))


def random_model(seed, processes=None):
    return Maker(seed, processes).model()


def random_models(seeds):
    return [IDLE] + [random_model(seed) for seed in seeds]
