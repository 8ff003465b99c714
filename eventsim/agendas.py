"""Agendas: when each process acts next."""


class Agenda:
    """Entries with a time, a number and a process; a process never has more than one."""

    def __init__(self):
        # For each process that has an entry, its time and its number.
        self._entries = {}
        self._made = 0

    def copy(self):
        """Return an equal agenda; later entries of one do not affect the other."""
        twin = Agenda()
        twin._entries = dict(self._entries)
        twin._made = self._made
        return twin

    def enter(self, time, process):
        """Make an entry for a process that has none."""
        self._entries[process] = (time, self._made)
        self._made += 1

    def drop(self, process):
        """Remove the entry of a process."""
        del self._entries[process]

    def time_of(self, process):
        """Return the time of the entry of a process, or None if it has none."""
        if process not in self._entries:
            return None
        return self._entries[process][0]

    def rows(self):
        """Return a list of (time, process) for all entries, in the order in which they come up."""
        entries = [(*self._entries[process], process) for process in self._entries]
        return [(time, process) for time, _, process in sorted(entries)]
