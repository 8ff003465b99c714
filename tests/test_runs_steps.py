"""Point [30]: runs entry by entry, and who is ready, asleep or blocked between the entries."""

import unittest

from eventsim.agendas import Agenda
from eventsim.errors import LimitError
from eventsim.runs import Run
from eventsim.scripts import Rest, occurs
from tests.samples import CROSS, SHOP, acts, made, told


class Steps(unittest.TestCase):

    def after(self, run, steps):
        """The events of some steps."""
        before = len(run.history)
        for _ in range(steps):
            run.step()
        return told(run.history[before:])

    def test_an_entry_for_each_process_at_time_0(self):
        run = Run(made("mark 1", "", "wait 1"))
        self.assertEqual(run.agenda.rows(), [(0, 0), (0, 1), (0, 2)])
        self.assertEqual([run.status(process) for process in range(3)], [("ready",)] * 3)
        self.assertEqual((run.clock, run.history), (0, []))

    def test_one_entry_after_another(self):
        run = Run(SHOP)
        self.assertEqual(self.after(run, 1), ["0 0 hold 0", "0 0 sleep 3"])
        self.assertEqual([run.status(0), run.status(1)], [("asleep", 3), ("ready",)])
        self.assertEqual(self.after(run, 1), ["0 1 sleep 1"])
        self.assertEqual(self.after(run, 1), ["1 1 wake", "1 1 ask 0"])
        self.assertEqual([run.clock, run.status(0), run.status(1)], [1, ("asleep", 2), ("wants", 0)])
        self.assertEqual(self.after(run, 1), ["3 0 wake", "3 0 give 0", "3 1 hold 0", "3 0 end"])
        self.assertEqual([run.clock, run.status(0), run.status(1)], [3, ("finished",), ("ready",)])
        self.assertEqual(self.after(run, 2), ["3 1 sleep 2", "5 1 wake", "5 1 give 0", "5 1 end"])
        self.assertEqual(run.agenda.rows(), [])

    def test_ready_when_the_sleep_ends_now(self):
        run = Run(made("wait 2", "wait 2"))
        self.after(run, 3)
        self.assertEqual([run.status(0), run.status(1)], [("finished",), ("ready",)])

    def test_ready_when_roused(self):
        run = Run(made("wait 9", "wait 2, rouse 0"))
        self.after(run, 3)
        self.assertEqual([run.status(0), run.agenda.rows()], [("ready",), [(2, 0)]])

    def test_ready_when_scheduled(self):
        run = Run(made("pass 0, wait 1", "open 0", gates=("shut",)))
        self.after(run, 1)
        self.assertEqual(run.status(0), ("closed", 0))
        self.after(run, 1)
        self.assertEqual(run.status(0), ("ready",))
        self.after(run, 1)
        self.assertEqual(run.status(0), ("asleep", 1))

    def test_advance(self):
        run = Run(SHOP)
        run.advance(2)
        self.assertEqual((run.clock, len(run.history), run.status(0)), (2, 5, ("asleep", 1)))
        run.advance(2)
        self.assertEqual((run.clock, len(run.history)), (2, 5))
        run.advance(1000)
        self.assertEqual((run.clock, len(run.history), run.status(0)), (1000, 13, ("finished",)))

    def test_limit(self):
        run = Run(SHOP, 5)
        run.advance(2)
        self.assertEqual(len(run.history), 5)
        with self.assertRaises(LimitError) as caught:
            run.advance(3)
        self.assertEqual((caught.exception.limit, len(run.history)), (5, 5))

    def test_two_runs_of_one_model_do_not_share_anything(self):
        model = made("put 0 1, pass 0, take 0 0, give 0", "wait 1, open 0", stores=((2, ()),), gates=("shut",),
                     resources=(("rank", 1),))
        one, other = Run(model), Run(model)
        one.advance(5)
        self.assertEqual((other.history, other.stores[0].kept, other.gates[0].word), ([], [], "shut"))
        other.advance(5)
        self.assertEqual(other.history, one.history)

    def test_the_model_is_not_modified(self):
        before = repr(CROSS)
        Run(CROSS).advance(50)
        self.assertEqual(repr(CROSS), before)


class Agendas(unittest.TestCase):

    def test_order(self):
        agenda = Agenda()
        for time, process in ((5, 0), (3, 2), (5, 1), (3, 4), (0, 3)):
            agenda.enter(time, process)
        self.assertEqual(agenda.rows(), [(0, 3), (3, 2), (3, 4), (5, 0), (5, 1)])
        self.assertEqual([agenda.time_of(process) for process in range(6)], [5, 5, 3, 0, 3, None])

    def test_drop(self):
        agenda = Agenda()
        for time, process in ((5, 0), (5, 1), (5, 2)):
            agenda.enter(time, process)
        agenda.drop(0)
        self.assertEqual((agenda.rows(), agenda.time_of(0)), ([(5, 1), (5, 2)], None))
        agenda.enter(5, 0)
        self.assertEqual(agenda.rows(), [(5, 1), (5, 2), (5, 0)])

    def test_copy(self):
        agenda = Agenda()
        for time, process in ((5, 0), (5, 1)):
            agenda.enter(time, process)
        twin = agenda.copy()
        agenda.drop(0)
        twin.enter(5, 2)
        self.assertEqual((agenda.rows(), twin.rows()), ([(5, 1)], [(5, 0), (5, 1), (5, 2)]))


class Scripts(unittest.TestCase):

    def test_begin(self):
        rest = Rest(acts("mark 1", ("repeat", 2, acts("wait 1")), ("mark", 2)))
        found = []
        instruction = rest.begin()
        while instruction is not None:
            found.append(instruction)
            instruction = rest.begin()
        self.assertEqual(found, [("mark", 1), ("wait", 1), ("wait", 1), ("mark", 2)])
        self.assertIsNone(rest.begin())
        self.assertEqual(rest.remaining(), ())

    def test_a_forever_does_not_grow(self):
        forever = ("forever", acts("wait 1", ("repeat", 2, acts("mark 1"))))
        rest = Rest((forever,))
        for _ in range(3000):
            rest.begin()
        self.assertEqual(rest.remaining(), (forever,))
        self.assertLessEqual(len(rest._frames), 3)

    def test_rounds(self):
        rest = Rest(acts("mark 1", ("repeat", 3, acts("mark 2")), ("forever", acts("wait 1", ("repeat", 2, acts("mark 3"))))))
        found = []
        for _ in range(11):
            rest.begin()
            found.append(rest.rounds)
        self.assertEqual(found, [0, 0, 0, 0, 1, 1, 1, 2, 2, 2, 3])

    def test_copy(self):
        rest = Rest((("forever", acts("mark 1, mark 2, wait 1")),))
        for _ in range(4):
            rest.begin()
        twin = rest.copy()
        left = rest.remaining()
        self.assertEqual((twin.remaining(), twin.rounds), (left, 2))
        self.assertEqual([twin.begin(), twin.begin(), twin.begin()], [("mark", 2), ("wait", 1), ("mark", 1)])
        self.assertEqual((rest.remaining(), rest.rounds, twin.rounds), (left, 2, 3))

    def test_occurs(self):
        script = acts("put 0 7, get 1", ("repeat", 0, acts("put 1 7")), ("repeat", 1, acts("get 2")))
        found = [(word, number) for word in ("put", "get") for number in range(3) if occurs(word, number, script)]
        self.assertEqual(found, [("put", 0), ("get", 1), ("get", 2)])


if __name__ == "__main__":
    unittest.main()
