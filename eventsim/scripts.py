"""Scripts: how a process goes through its own, and what occurs in them."""


class Rest:
    """What is left of the script of a process."""

    def __init__(self, script):
        # Pairs (script, place): the instructions from the place on are left, those of the last pair come first.
        self._frames = []
        # How often the body of a forever has begun.
        self.rounds = 0
        self._push(script, 0)

    def copy(self):
        """Return an equal rest; what begins in one does not affect the other."""
        twin = Rest(())
        twin._frames = list(self._frames)
        twin.rounds = self.rounds
        return twin

    def begin(self):
        """Begin the next instruction, going into each body on the way; return it, or None at the end."""
        while self._frames:
            script, place = self._frames.pop()
            self._push(script, place + 1)
            instruction = script[place]
            if instruction[0] == "repeat":
                self._repeat(instruction[1], instruction[2])
            elif instruction[0] == "forever":
                self.rounds += 1
                self._push((instruction,), 0)
                self._push(instruction[1], 0)
            else:
                return instruction
        return None

    def _repeat(self, times, body):
        if times > 1:
            self._push((("repeat", times - 1, body),), 0)
        if times > 0:
            self._push(body, 0)

    def _push(self, script, place):
        # A pair of which nothing is left is not kept: a forever would pile them up.
        if place < len(script):
            self._frames.append((script, place))

    def remaining(self):
        """Return the script of the instructions that have not begun."""
        rows = []
        for script, place in reversed(self._frames):
            rows.extend(script[place:])
        return tuple(rows)


def occurs(word, number, script):
    """Return whether an instruction with this word and first number stands in a script or in a body that is executed.

    A body that is executed no times does not count.
    """
    for instruction in script:
        if instruction[:2] == (word, number):
            return True
        if _is_executed(instruction) and occurs(word, number, instruction[-1]):
            return True
    return False


def _is_executed(instruction):
    """Return whether an instruction has a body that is executed at least once."""
    return instruction[0] == "forever" or (instruction[0] == "repeat" and instruction[1] > 0)
