"""The policies of the catalog as they are told, with lines and times and without tables."""


class Account:
    """A cache that replaces by its title, as the document tells it."""

    def __init__(self, title, lines):
        self.title = title
        self.lines = [None] * lines
        self.requested = [0] * lines
        self.came = [0] * lines
        self.bits = [0] * lines
        self.hand = 0
        self.tree = {"root": 0, "low": 0, "high": 0}
        self.time = 0

    def request(self, name):
        """Request a name, and return whether it was there."""
        self.time += 1
        hit = name in self.lines
        if not hit:
            line = self.line_for_a_miss()
            self.lines[line] = name
            self.came[line] = self.time
            if self.title == "clock":
                self.hand = (line + 1) % len(self.lines)
        line = self.lines.index(name)
        self.requested[line] = self.time
        self.after_request(line)
        return hit

    def line_for_a_miss(self):
        if self.title == "plru":
            return self.pointed()
        if None in self.lines:
            return self.lines.index(None)
        return getattr(self, "victim_of_" + self.title)()

    def victim_of_lru(self):
        return self.requested.index(min(self.requested))

    def victim_of_mru(self):
        return self.requested.index(max(self.requested))

    def victim_of_fifo(self):
        return self.came.index(min(self.came))

    def victim_of_lifo(self):
        return self.came.index(max(self.came))

    def victim_of_clock(self):
        while self.bits[self.hand]:
            self.bits[self.hand] = 0
            self.hand = 0 if self.hand == len(self.lines) - 1 else self.hand + 1
        return self.hand

    def victim_of_bits(self):
        for line, bit in enumerate(self.bits):
            if bit == 0:
                return line
        return 0

    def pointed(self):
        if len(self.lines) == 1:
            return 0
        if len(self.lines) == 2:
            return self.tree["root"]
        if self.tree["root"] == 0:
            return self.tree["low"]
        return 2 + self.tree["high"]

    def after_request(self, line):
        self.bits[line] = 1
        if self.title == "bits" and all(self.bits):
            self.bits = [0] * len(self.lines)
            self.bits[line] = 1
        if len(self.lines) == 2:
            self.tree["root"] = 1 if line == 0 else 0
        if len(self.lines) == 4:
            self.tree["root"] = 1 if line in (0, 1) else 0
            half = "low" if line in (0, 1) else "high"
            self.tree[half] = 1 if line in (0, 2) else 0


def account_answers(title, lines, names):
    """Return the answers of the policy with a title to the requests of a history."""
    account = Account(title, lines)
    return tuple([account.request(name) for name in names])
