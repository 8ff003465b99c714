"""Models that several tests use, and ways to change them."""

SHOP = (
    (("fifo", 1),),
    (),
    (),
    (
        (("take", 0, 0), ("wait", 3), ("give", 0)),
        (("wait", 1), ("take", 0, 0), ("wait", 2), ("give", 0)),
    ),
)

BELT = ((), ((1, ()),), (), ((("put", 0, 7), ("put", 0, 8)), (("wait", 4), ("get", 0))))

IDLE = ((), (), (), ((),))

# Every instruction, discipline and kind of part at least once, also in bodies.
RICH = (
    (("fifo", 1), ("rank", 2), ("preempt", 3)),
    ((3, (5, 99)), (1, ())),
    ("open", "shut"),
    (
        (
            ("wait", 1),
            ("take", 1, 9),
            ("repeat", 2, (("put", 1, 0), ("repeat", 0, (("get", 0), ("repeat", 5, (("pass", 1),)))))),
            ("give", 1),
            ("rouse", 1),
        ),
        (
            ("mark", 999),
            ("forever", (
                ("take", 2, 1),
                ("open", 1),
                ("repeat", 3, (("shut", 0), ("repeat", 1, (("wait", 1),)))),
                ("give", 2),
            )),
        ),
        (),
    ),
)

# One value of each kind, none of them an integer: also such as are equal to one, or look like a part of a model.
NOT_INTEGERS = (
    True, False, None, "", "0", "1", "wait", "fifo", "open",
    (), (0,), (1,), ("wait", 1), [], [0], [1], ["wait", 1], {}, {0: 1}, {"wait": 1},
)
NOT_TUPLES = (
    0, 1, -1, 12, True, False, None, "", "0", "wait", "open", "fifo", [], [0], ["wait", 1], [("wait", 1)],
    {}, {0: 1}, {"wait": 1}, {("wait", 1): 0},
)
NOT_STRINGS = (
    0, 1, -1, 12, True, False, None, (), ("wait",), ("fifo",), ("open",), [], ["wait"], ["fifo"], ["open"],
    {}, {"wait": 1}, {"fifo": 1},
)
NO_TIMES = (-1, 201, 202, 10 ** 11, -(10 ** 11), *NOT_INTEGERS)
NO_MODELS = ((), None, True, 0, "model", [], {}, list(SHOP), SHOP[:3], SHOP + ((),), ((), (), (), ()))


def solo(*script):
    """A model with plenty of parts whose first process has this script; two further processes do nothing."""
    return (
        (("fifo", 1), ("rank", 2), ("preempt", 3), ("fifo", 2)),
        ((1, ()), (2, (1,)), (4, ())),
        ("open", "shut", "open"),
        (script, (), ()),
    )


def replaced(thing, path, value):
    """The thing with the value in the place to which the path of indexes leads."""
    if not path:
        return value
    at = path[0]
    return thing[:at] + (replaced(thing[at], path[1:], value),) + thing[at + 1:]


def places(thing, path=()):
    """All pairs (path, part) of nested tuples, the thing itself included."""
    found = [(path, thing)]
    if isinstance(thing, tuple):
        for at, part in enumerate(thing):
            found.extend(places(part, path + (at,)))
    return found


def words(*names):
    """One mark for each number: a short script whose parts can be told apart."""
    return tuple(("mark", name) for name in names)


# Two processes, each of which holds what the other one takes next.
CROSS = (
    (("fifo", 1), ("fifo", 1)),
    (),
    (),
    (
        (("take", 0, 0), ("wait", 1), ("take", 1, 0), ("give", 1), ("give", 0)),
        (("take", 1, 0), ("wait", 1), ("take", 0, 0), ("give", 0), ("give", 1)),
    ),
)


def acts(text, *further):
    """A script from a text like "take 0 5, wait 3, give 0"; instructions with bodies follow as they are."""
    rows = []
    for part in text.split(", ") if text else []:
        word, *numbers = part.split(" ")
        rows.append((word, *(int(number) for number in numbers)))
    return tuple(rows) + further


def made(*scripts, resources=(), stores=(), gates=()):
    """A model with these parts; a script is a tuple, or a text as in acts."""
    return resources, stores, gates, tuple(acts(part) if isinstance(part, str) else part for part in scripts)


def told(rows):
    """Events as texts like "3 1 hold 0"."""
    return [" ".join([str(part) for part in row]) for row in rows]
