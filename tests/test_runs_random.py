"""Points [30] to [61] for many small models: against the second simulation, and the relations that must hold."""

import functools
import unittest

from eventsim.measures import area, busy, flow, holds, lengths, marks, total_wait, waits
from eventsim.models import beside, is_model, scaled, unrolled
from eventsim.stuck import first_stuck, is_stuck, largest_stuck, providers
from eventsim.traces import first_difference, moment_of, own_trace, resume, situation, trace
from tests.random_models import random_model
from tests.reference import Reference, all_stuck, provides, waiting

HORIZON = 24
SEEDS = range(400)
FEW = range(0, 400, 8)


@functools.cache
def model_of(seed):
    return random_model(seed)


@functools.cache
def reference_of(seed):
    return Reference(model_of(seed), HORIZON)


class Case(unittest.TestCase):

    def each(self, seeds=SEEDS):
        for seed in seeds:
            with self.subTest(seed=seed):
                yield model_of(seed), reference_of(seed)


class AgainstTheReference(Case):

    def test_the_models_are_models_with_few_events(self):
        for model, reference in self.each():
            self.assertTrue(is_model(model))
            self.assertLessEqual(len(reference.events), 3000)

    def test_everything_happens_in_some_model(self):
        words = {event[2] for seed in SEEDS for event in reference_of(seed).events}
        self.assertEqual(words, {
            "sleep", "wake", "hold", "lose", "ask", "give", "put", "got", "full", "empty", "pass", "closed", "open",
            "shut", "rouse", "mark", "end",
        })
        statuses = {status[0] for seed in SEEDS for view in reference_of(seed).situations for status, _ in view[0]}
        self.assertEqual(statuses, {"asleep", "suspended", "wants", "full", "empty", "closed", "finished"})

    def test_traces(self):
        for model, reference in self.each():
            self.assertEqual(trace(model, HORIZON), tuple(reference.events))

    def test_earlier_horizons_and_single_processes(self):
        for model, reference in self.each(FEW):
            for horizon in (0, 1, 2, 5, 11):
                rows = tuple(event for event in reference.events if event[0] <= horizon)
                self.assertEqual(trace(model, horizon), rows)
                for process in range(len(model[3])):
                    self.assertEqual(
                        own_trace(model, process, horizon),
                        tuple(event for event in rows if event[1] == process),
                    )

    def test_situations(self):
        for model, reference in self.each():
            for time in (0, 1, 2, 3, 7, HORIZON):
                self.assertEqual(situation(model, time), reference.situations[time])

    def test_moments(self):
        for model, reference in self.each(FEW):
            for time in (0, 1, 2, 5, 9, HORIZON):
                view = reference.situations[time]
                self.assertEqual(moment_of(model, view), reference.situations.index(view))

    def test_measures_of_resources(self):
        for model, reference in self.each():
            for resource, (_, units) in enumerate(model[0]):
                found = waits(model, resource, HORIZON), holds(model, resource, HORIZON)
                self.assertEqual(found[0], tuple(tuple(row) for row in reference.waits[resource]))
                self.assertEqual(found[1], tuple(tuple(row) for row in reference.holds[resource]))
                self.check_lengths(model, reference, resource)
                numerator, denominator = busy(model, resource, HORIZON)
                held = sum(end - start for _, start, end in reference.holds[resource])
                self.assertEqual(numerator * units * HORIZON, denominator * held)

    def check_lengths(self, model, reference, resource):
        column = [row[resource] for row in reference.lengths]
        expected = [
            (time, length) for time, length in enumerate(column) if time == 0 or length != column[time - 1]
        ]
        self.assertEqual(lengths(model, resource, HORIZON), tuple(expected))
        self.assertEqual(area(model, resource, HORIZON), sum(column[:-1]))
        self.assertEqual(total_wait(model, resource, HORIZON), sum(column[:-1]))

    def test_flow_and_marks(self):
        for model, reference in self.each():
            for store, (_, items) in enumerate(model[1]):
                put, got = flow(model, store, HORIZON)
                rows = [event for event in reference.events if event[3:4] == (store,)]
                self.assertEqual(put, tuple(event[4] for event in rows if event[2] == "put"))
                self.assertEqual(got, tuple(event[4] for event in rows if event[2] == "got"))
                self.assertEqual(got, (items + put)[:len(got)])
            for number in {event[3] for event in reference.events if event[2] == "mark"}:
                rows = [event[:2] for event in reference.events if event[2:] == ("mark", number)]
                self.assertEqual(marks(model, number, HORIZON), tuple(rows))

    def test_providers(self):
        for model, reference in self.each(range(0, 400, 2)):
            everybody = range(len(model[3]))
            for time in (0, 2, 6, HORIZON):
                view = reference.situations[time]
                for process in everybody:
                    expected = [
                        other for other in everybody if process in waiting(view) and provides(view, other, process)
                    ]
                    self.assertEqual(providers(model, time, process), tuple(expected))

    def test_stuck_sets(self):
        for model, reference in self.each(range(1, 400, 2)):
            for time in (0, 2, 6, HORIZON):
                sets = all_stuck(reference.situations[time])
                largest = largest_stuck(model, time)
                self.assertIn(largest, sets)
                self.assertEqual(set(largest), set().union(*sets))
                for members in sets[:4] + [waiting(reference.situations[time])]:
                    self.assertEqual(is_stuck(model, time, tuple(members)), tuple(members) in sets)

    def test_first_stuck(self):
        for model, reference in self.each():
            found = [(time, max(all_stuck(view), key=len)) for time, view in enumerate(reference.situations)]
            expected = [pair for pair in found if pair[1]]
            self.assertEqual(first_stuck(model, HORIZON), expected[0] if expected else None)


class Relations(Case):

    def test_resume_is_what_follows(self):
        for model, reference in self.each(FEW):
            for time in (0, 1, 4, 10):
                rows = [event for event in reference.events if event[0] > time]
                self.assertEqual(
                    resume(model, reference.situations[time], HORIZON - time),
                    tuple((event[0] - time, *event[1:]) for event in rows),
                )

    def test_waits_and_area_at_each_horizon(self):
        for model, _ in self.each(FEW):
            for resource in range(len(model[0])):
                for horizon in (0, 1, 2, 3, 8, 15, 60):
                    self.assertEqual(total_wait(model, resource, horizon), area(model, resource, horizon))

    def test_unrolled(self):
        for model, _ in self.each():
            self.assertIsNone(first_difference(model, unrolled(model), HORIZON))

    def test_scaled(self):
        for model, reference in self.each(range(0, 400, 4)):
            for factor in (1, 2, 5):
                rows = []
                for event in reference.events:
                    last = (event[3] * factor,) if event[2] == "sleep" else event[3:]
                    rows.append((event[0] * factor, *event[1:3], *last))
                expected = tuple(row for row in rows if row[0] <= 3 * HORIZON)
                horizon = min(factor * HORIZON + factor - 1, 3 * HORIZON)
                self.assertEqual(trace(scaled(model, factor), horizon), expected)

    def test_beside(self):
        for seed in range(0, 300, 3):
            pair = random_model(seed, 3), random_model(seed + 1, 2)
            shifts = [len(part) for part in pair[0][:3]]
            if any(len(pair[0][at]) + len(pair[1][at]) > most for at, most in enumerate((4, 3, 3))):
                continue
            both = beside(*pair)
            self.assertEqual([own_trace(both, process, HORIZON) for process in range(3)],
                             [own_trace(pair[0], process, HORIZON) for process in range(3)])
            for process in range(2):
                self.assertEqual(
                    own_trace(both, process + 3, HORIZON),
                    tuple(shifted(event, shifts) for event in own_trace(pair[1], process, HORIZON)),
                )

    def test_stuck_sets_stay(self):
        for model, reference in self.each():
            for time in (0, 3, 8):
                members = max(all_stuck(reference.situations[time]), key=len)
                self.assertTrue(is_stuck(model, HORIZON, members))
                later = [event for event in reference.events if event[0] > time and event[1] in members]
                self.assertEqual(later, [])

    def test_an_empty_agenda(self):
        count = 0
        for model, reference in self.each():
            view = reference.situations[-1]
            if not view[4]:
                count += 1
                unfinished = [number for number, (status, _) in enumerate(view[0]) if status != ("finished",)]
                self.assertTrue(is_stuck(model, HORIZON, tuple(unfinished)))
                self.assertEqual(largest_stuck(model, HORIZON), tuple(unfinished))
        self.assertGreater(count, 20)


KINDS = {
    "hold": 0, "lose": 0, "ask": 0, "give": 0, "put": 1, "got": 1, "full": 1, "empty": 1,
    "pass": 2, "closed": 2, "open": 2, "shut": 2,
}


def shifted(event, shifts):
    """An event of the second of two models beside one another, of which the first one has three processes."""
    time, process, word, *numbers = event
    if word in KINDS:
        numbers[0] += shifts[KINDS[word]]
    if word == "rouse":
        numbers[0] += 3
    return (time, process + 3, word, *numbers)


if __name__ == "__main__":
    unittest.main()
