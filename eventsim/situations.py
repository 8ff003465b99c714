"""Situations: everything on which the rest of a run depends."""


def snapshot(run):
    """Return the situation of a run after the time to which it has advanced."""
    return (
        tuple([(run.status(process), rest.remaining()) for process, rest in enumerate(run.rests)]),
        tuple([_requests(line) for line in run.lines]),
        tuple([(tuple(store.kept), tuple(store.getters), tuple(store.putters)) for store in run.stores]),
        tuple([(gate.word, tuple(gate.passers)) for gate in run.gates]),
        tuple([(time - run.clock, process) for time, process in run.agenda.rows()]),
    )


def _requests(line):
    """Return all requests of a line, each with the word that tells whether it holds a unit."""
    return tuple([(rank, process, "holds" if holds else "waits") for rank, process, holds in line.requests()])
