"""A second simulation, written from points [30] to [80] in another way than the program: the tests compare both."""

import heapq
import itertools

WAITING = ("suspended", "wants", "full", "empty", "closed")


def steps(script, behind=()):
    """All instructions in the order of execution, each with what is left of the script behind it."""
    for place, instruction in enumerate(script):
        rest = script[place + 1:] + behind
        if instruction[0] == "repeat":
            times, body = instruction[1:]
            for further in range(times - 1, -1, -1):
                yield from steps(body, ((("repeat", further, body),) if further else ()) + rest)
        elif instruction[0] == "forever":
            while True:
                yield from steps(instruction[1], (instruction,) + rest)
        else:
            yield instruction, rest


class Request:

    def __init__(self, number, process, rank, holds):
        self.number, self.process, self.rank, self.holds = number, process, rank, holds
        self.row = None


class Process:

    def __init__(self, number, script):
        self.number = number
        self.steps = steps(script)
        self.left = script
        self.status = "ready"
        self.detail = ()
        self.entry = None
        self.fell_asleep = None
        self.must_wake = False


class Reference:
    """The run up to a horizon: events, situations, lengths of lines, waits and holds.

    Records, if they are kept, tell what there is at first and after each entry of the agenda: the time, the number of
    events so far, and what a situation has, in which processes may be ready.
    """

    def __init__(self, model, horizon, keep_records=False):
        resources, stores, gates, scripts = model
        self.now = 0
        self.events, self.situations, self.lengths = [], [], []
        self.waits = [[] for _ in resources]
        self.holds = [[] for _ in resources]
        self.disciplines = [discipline for discipline, _ in resources]
        self.units = [units for _, units in resources]
        self.requests = [[] for _ in resources]
        self.capacities = [capacity for capacity, _ in stores]
        self.items = [list(items) for _, items in stores]
        self.getters, self.putters = [[] for _ in stores], [[] for _ in stores]
        self.is_open = [word == "open" for word in gates]
        self.passers = [[] for _ in gates]
        self.processes = [Process(number, script) for number, script in enumerate(scripts)]
        self.agenda = []
        self.numbers = itertools.count()
        for process in self.processes:
            self.enter(process, 0)
        self.keep_records = keep_records
        self.records = []
        self.record()
        for time in range(horizon + 1):
            self.go_on(time)
            self.situations.append(self.situation(time))
            self.lengths.append([sum(not request.holds for request in queue) for queue in self.requests])
        self.close(horizon)

    def close(self, horizon):
        for rows in self.waits + self.holds:
            for row in rows:
                if len(row) == 2:
                    row.append(horizon)

    # The agenda: entries that have been removed stay in the heap, but no process refers to them any more.

    def enter(self, process, time):
        process.entry = (time, next(self.numbers), process.number)
        heapq.heappush(self.agenda, process.entry)

    def valid(self):
        return [entry for entry in sorted(self.agenda) if self.processes[entry[2]].entry == entry]

    def go_on(self, time):
        while self.agenda and self.agenda[0][0] <= time:
            entry = heapq.heappop(self.agenda)
            process = self.processes[entry[2]]
            if process.entry == entry:
                process.entry = None
                self.now = entry[0]
                self.act(process)
                self.record()
        self.now = time

    def record(self):
        if self.keep_records:
            self.records.append((self.now, len(self.events), self.situation(self.now)))

    def act(self, process):
        process.status, process.detail = "ready", ()
        if process.must_wake:
            process.must_wake = False
            self.event(process, "wake")
        for instruction, left in process.steps:
            process.left = left
            getattr(self, "do_" + instruction[0])(process, *instruction[1:])
            if process.status != "ready":
                return
        process.left = ()
        process.status = "finished"
        self.event(process, "end")

    def event(self, process, *parts):
        self.events.append((self.now, process.number, *parts))

    def block(self, process, status, *detail):
        process.status, process.detail = status, detail

    def asleep(self, process):
        return process.status == "asleep" and process.entry[0] > self.now

    # The instructions.

    def fall_asleep(self, process, time):
        process.status = "asleep"
        process.must_wake = True
        process.fell_asleep = self.now
        self.enter(process, self.now + time)

    def do_wait(self, process, time):
        if time:
            self.event(process, "sleep", time)
            self.fall_asleep(process, time)

    def do_take(self, process, resource, rank):
        queue = self.requests[resource]
        request = Request(next(self.numbers), process.number, rank, False)
        queue.append(request)
        if sum(other.holds for other in queue) < self.units[resource]:
            return self.hold(request, resource)
        victims = [
            other for other in queue
            if other.holds and other.rank > rank and self.asleep(self.processes[other.process])
        ]
        if self.disciplines[resource] == "preempt" and victims:
            self.lose(max(victims, key=lambda other: (other.rank, other.number)), resource)
            return self.hold(request, resource)
        self.event(process, "ask", resource)
        self.waits[resource].append([process.number, self.now])
        return self.block(process, "wants", resource)

    def hold(self, request, resource):
        request.holds = True
        self.event(self.processes[request.process], "hold", resource)
        for row in self.waits[resource]:
            if row[0] == request.process and len(row) == 2:
                row.append(self.now)
        request.row = [request.process, self.now]
        self.holds[resource].append(request.row)

    def lose(self, request, resource):
        loser = self.processes[request.process]
        request.holds = False
        request.row.append(self.now)
        self.event(loser, "lose", resource)
        self.waits[resource].append([loser.number, self.now])
        self.block(loser, "suspended", resource, loser.entry[0] - self.now)
        loser.entry = None

    def do_give(self, process, resource):
        self.event(process, "give", resource)
        queue = self.requests[resource]
        own = [request for request in queue if request.process == process.number and request.holds]
        own[-1].row.append(self.now)
        queue.remove(own[-1])
        waiting = [request for request in queue if not request.holds]
        if not waiting:
            return
        if self.disciplines[resource] == "fifo":
            first = waiting[0]
        else:
            first = min(waiting, key=lambda request: (request.rank, request.number))
        self.hold(first, resource)
        follower = self.processes[first.process]
        if follower.status == "suspended":
            self.fall_asleep(follower, follower.detail[1])
        else:
            self.wake_up(follower)

    def wake_up(self, process):
        process.status, process.detail = "ready", ()
        self.enter(process, self.now)

    def do_put(self, process, store, item):
        if self.getters[store]:
            getter = self.getters[store].pop(0)
            self.event(process, "put", store, item)
            self.event(getter, "got", store, item)
            self.wake_up(getter)
        elif len(self.items[store]) < self.capacities[store]:
            self.items[store].append(item)
            self.event(process, "put", store, item)
        else:
            self.event(process, "full", store)
            self.putters[store].append((process, item))
            self.block(process, "full", store, item)

    def do_get(self, process, store):
        if not self.items[store]:
            self.event(process, "empty", store)
            self.getters[store].append(process)
            return self.block(process, "empty", store)
        self.event(process, "got", store, self.items[store].pop(0))
        if self.putters[store]:
            putter, item = self.putters[store].pop(0)
            self.items[store].append(item)
            self.event(putter, "put", store, item)
            self.wake_up(putter)
        return None

    def do_pass(self, process, gate):
        if self.is_open[gate]:
            self.event(process, "pass", gate)
        else:
            self.event(process, "closed", gate)
            self.passers[gate].append(process)
            self.block(process, "closed", gate)

    def do_open(self, process, gate):
        self.event(process, "open", gate)
        self.is_open[gate] = True
        while self.passers[gate]:
            passer = self.passers[gate].pop(0)
            self.event(passer, "pass", gate)
            self.wake_up(passer)

    def do_shut(self, process, gate):
        self.event(process, "shut", gate)
        self.is_open[gate] = False

    def do_rouse(self, process, other):
        sleeper = self.processes[other]
        if self.asleep(sleeper) and sleeper.fell_asleep < self.now:
            self.event(process, "rouse", other)
            sleeper.status = "ready"
            self.enter(sleeper, self.now)

    def do_mark(self, process, number):
        self.event(process, "mark", number)

    # Situations.

    def status(self, process):
        if process.status == "asleep" and process.entry[0] == self.now:
            return ("ready",)
        if process.status == "asleep":
            return ("asleep", process.entry[0] - self.now)
        return (process.status, *process.detail)

    def situation(self, time):
        return (
            tuple((self.status(process), process.left) for process in self.processes),
            tuple(
                tuple((row.rank, row.process, "holds" if row.holds else "waits") for row in queue)
                for queue in self.requests
            ),
            tuple(
                (
                    tuple(self.items[store]),
                    tuple(process.number for process in self.getters[store]),
                    tuple((process.number, item) for process, item in self.putters[store]),
                )
                for store in range(len(self.items))
            ),
            tuple(
                ("open" if is_open else "shut", tuple(process.number for process in passers))
                for is_open, passers in zip(self.is_open, self.passers)
            ),
            tuple((entry[0] - time, entry[2]) for entry in self.valid()),
        )


def occurring(script):
    """All instructions that occur in a script in the sense of point [60]."""
    for instruction in script:
        yield instruction
        if instruction[0] == "repeat" and instruction[1] > 0:
            yield from occurring(instruction[2])
        if instruction[0] == "forever":
            yield from occurring(instruction[1])


def provides(situation, helper, process):
    """Whether one process can provide what another one, which waits, waits for."""
    status = situation[0][process][0]
    rest = list(occurring(situation[0][helper][1]))
    if status[0] in ("wants", "suspended"):
        return any(row[1:] == (helper, "holds") for row in situation[1][status[1]])
    if status[0] == "empty":
        return any(instruction[:2] == ("put", status[1]) for instruction in rest)
    if status[0] == "full":
        return ("get", status[1]) in rest
    return ("open", status[1]) in rest


def waiting(situation):
    return [number for number, (status, _) in enumerate(situation[0]) if status[0] in WAITING]


def all_stuck(situation):
    """All stuck sets of a situation, by trying each set of waiting processes."""
    everybody = range(len(situation[0]))
    names = waiting(situation)
    found = []
    for size in range(len(names) + 1):
        for members in itertools.combinations(names, size):
            needed = {helper for process in members for helper in everybody if provides(situation, helper, process)}
            if needed <= set(members):
                found.append(members)
    return found


def with_round_marks(model):
    """The same model, in which each body of a forever begins with the mark 1000, which no model has."""
    return (*model[:3], tuple(
        script[:-1] + (("forever", (("mark", 1000), *script[-1][1])),) if script and script[-1][0] == "forever"
        else script
        for script in model[3]
    ))


def rhythm_of(model, last=200):
    """What becomes of the run, by comparing all situations."""
    run = Reference(with_round_marks(model), last)
    views = run.situations
    for time, view in enumerate(views):
        unfinished = tuple(number for number, (status, _) in enumerate(view[0]) if status[0] != "finished")
        if not unfinished:
            return ("ends", time)
        if not view[4]:
            return ("stuck", time, unfinished)
    for start, view in enumerate(views):
        if view in views[start + 1:]:
            period = views[start + 1:].index(view) + 1
            marks = [event for event in run.events if event[2:] == ("mark", 1000)]
            rounds = [
                sum(event[1] == process and start < event[0] <= start + period for event in marks)
                for process in range(len(model[3]))
            ]
            return ("cycle", start, period, tuple(rounds))
    return ("open",)
