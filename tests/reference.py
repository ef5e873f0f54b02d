"""Slow accounts of what the document tells, apart from the package, which the tests compare it with."""


class Machine:
    """A device that is run line by line, as points 7 and 8 tell it."""

    def __init__(self, device):
        self.device = device
        self.mode = device[0]
        self.policies = device[1:]
        self.lines = [[None] * policy[0] for policy in self.policies]
        self.states = [0] * len(self.policies)

    def twin(self):
        """Return a machine that is as this one, and goes on by itself."""
        other = Machine(self.device)
        other.lines = [list(level) for level in self.lines]
        other.states = list(self.states)
        return other

    def place(self):
        """Return the states and the contents, the upper level first."""
        return tuple(self.states), tuple(name for level in self.lines for name in level)

    def holds(self, name):
        return any(name in level for level in self.lines)

    def request(self, name):
        """Request a name, and return the answer."""
        answer = self.holds(name)
        if self.mode == "cache":
            self.ask(0, name)
        elif name in self.lines[0]:
            self.hit(0, name)
        else:
            self.behind(name)
        return answer

    def behind(self, name):
        """Request a name that the upper level does not hold."""
        gone = self.miss(0, name)
        if self.mode == "victim":
            if name in self.lines[1]:
                line = self.hit(1, name)
                self.lines[1][line] = gone
            elif gone is not None:
                self.miss(1, gone)
            return
        dropped = self.ask(1, name)
        if self.mode == "inclusive" and dropped is not None and dropped in self.lines[0]:
            self.lines[0][self.lines[0].index(dropped)] = None

    def ask(self, level, name):
        """Request a name from a level, and return the name that it takes the place of, if there is one."""
        if name in self.lines[level]:
            self.hit(level, name)
            return None
        return self.miss(level, name)

    def hit(self, level, name):
        """Hit the line of a name in a level, and return the line."""
        line = self.lines[level].index(name)
        self.states[level] = self.policies[level][1][self.states[level]][2][line]
        return line

    def miss(self, level, name):
        """Let a name take its place in a level, and return the name that was there, if there was one."""
        victim, after, hits = self.policies[level][1][self.states[level]]
        gone = self.lines[level][victim]
        self.lines[level][victim] = name
        self.states[level] = after
        return gone


def run(device, names):
    """Return the machine of a device behind a history, and its answers."""
    machine = Machine(device)
    return machine, tuple([machine.request(name) for name in names])


def answers(device, names):
    return run(device, names)[1]


def misses(device, names):
    return sum(1 for answer in answers(device, names) if not answer)


class Pair:
    """Two machines that get the same requests (points 9 and 10)."""

    def __init__(self, one, other):
        self.one = Machine(one)
        self.other = Machine(other)
        self.asked = ()

    def twin(self):
        pair = Pair.__new__(Pair)
        pair.one, pair.other, pair.asked = self.one.twin(), self.other.twin(), self.asked
        return pair

    def names(self):
        """Return the names that are held, in the order of the lines in which they first occur."""
        held = self.one.place()[1] + self.other.place()[1]
        return list(dict.fromkeys(name for name in held if name is not None))

    def situation(self):
        states, contents = self.one.place()
        more, others = self.other.place()
        names = self.names()
        return states + more, tuple(None if name is None else names.index(name) for name in contents + others)

    def steps(self, most):
        """Return how many steps there are with at most so many names."""
        known = len(self.names())
        return known if most is not None and known >= most else known + 1

    def step(self, step):
        """Follow a step, and return both answers."""
        names = self.names()
        name = names[step] if step < len(names) else next(name for name in spare_names() if name not in names)
        self.asked += (name,)
        return self.one.request(name), self.other.request(name)

    def request(self, name):
        """Request a name, and return its step."""
        names = self.names()
        step = names.index(name) if name in names else len(names)
        self.asked += (name,)
        self.one.request(name)
        self.other.request(name)
        return step


def spare_names():
    """Yield the spare names, up to those of two letters."""
    letters = "abcdefghijklmnopqrstuvwxyz"
    yield from letters
    for first in letters:
        for second in letters:
            yield first + second


def followed(one, other, steps):
    """Return the pair behind steps, and the answers to each of them."""
    pair = Pair(one, other)
    return pair, [pair.step(step) for step in steps]


def each_steps(one, other, length, most=None):
    """Yield the steps with up to so many elements, from the shortest on and in ascending order, with the pair.

    For each comes the pair behind them and the answers to the last one (None for no steps).
    """
    row = [((), Pair(one, other), None)]
    for _ in range(length + 1):
        yield from row
        later = []
        for steps, pair, told in row:
            for step in range(pair.steps(most)):
                twin = pair.twin()
                told = twin.step(step)
                later.append((steps + (step,), twin, told))
        row = later


def situations(one, other, most=None, limit=2000):
    """Return the situations that can be reached, from the shortest and least steps on, each with what steps do.

    A dict from each situation to a list with both answers and the situation behind, for each step.
    """
    begin = Pair(one, other)
    pairs = {begin.situation(): begin}
    found = {}
    queue = [begin.situation()]
    while queue and len(pairs) <= limit:
        situation = queue.pop(0)
        found[situation] = []
        for step in range(pairs[situation].steps(most)):
            twin = pairs[situation].twin()
            told = twin.step(step)
            found[situation].append((told, twin.situation()))
            if twin.situation() not in pairs:
                pairs[twin.situation()] = twin
                queue.append(twin.situation())
    return found if not queue else None


def count_situations(one, other, most=None):
    return len(situations(one, other, most))


def moments_of(device, program):
    """Return the moments with the answers to their requests, and the moments that follow each, by machines."""
    begin = Machine(device)
    machines = {(0, *begin.place()): begin}
    found = {}
    queue = list(machines)
    while queue:
        moment = queue.pop()
        machine = machines[moment].twin()
        answer = machine.request(program[moment[0]][0])
        behind = [(target, *machine.place()) for target in program[moment[0]][1]]
        found[moment] = (answer, behind)
        for other in behind:
            if other not in machines:
                machines[other] = machine
                queue.append(other)
    return found
