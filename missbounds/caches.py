"""Caches that are requested step by step, and keep numbers, a log or values (points 7 and 8)."""

from missbounds.catalog import named
from missbounds.devices import serve, start_of
from missbounds.errors import Busy, InvalidFunction, TooManyRequests, UnknownName
from missbounds.kinds import is_function
from missbounds.limits import MOST_REQUESTS
from missbounds.names import check_history, check_name, is_name
from missbounds.policies import check_device


class Cache:
    """A device that holds names."""

    KIND = "Cache"
    MODES = ("cache", "plain", "inclusive", "victim")

    def __init__(self, device):
        check_device(device)
        self.served = device
        self.place = start_of(device)
        self.hit_count = 0
        self.miss_count = 0

    @classmethod
    def named(cls, title, lines):
        """Return an empty cache with the policy of a title."""
        return cls(("cache", named(title, lines)))

    @property
    def device(self):
        """The device."""
        return self.served

    @property
    def states(self):
        """The states, that of the upper level first."""
        return self.place[0]

    @property
    def levels(self):
        """What the lines hold: a tuple for each level, the upper one first."""
        return levels_of(self.served, self.place[1])

    @property
    def held(self):
        """The ascending names that are held."""
        return names_in(self.place[1])

    @property
    def hits(self):
        """How many requests were hits since the beginning or the last reset."""
        return self.hit_count

    @property
    def misses(self):
        """How many requests were misses since the beginning or the last reset."""
        return self.miss_count

    def request(self, name):
        """Request a name and return the answer."""
        check_name(name)
        return self.take(name)

    def request_all(self, *names):
        """Request names one after the other and return the answers."""
        check_history(names)
        return tuple([self.take(name) for name in names])

    def reset(self):
        """Let all lines become empty, and all states and numbers 0."""
        self.place = start_of(self.served)
        self.hit_count = 0
        self.miss_count = 0

    def twin(self):
        """Return a cache that is the same and goes on by itself."""
        return self.handed_on(Cache(self.served))

    def take(self, name):
        """Let the device serve a request, and count the answer."""
        hit, states, contents = serve(self.served, self.place[0], self.place[1], name)
        self.place = (states, contents)
        if hit:
            self.hit_count += 1
        else:
            self.miss_count += 1
        return hit

    def handed_on(self, other):
        """Give a new cache the lines, states and numbers of this one, and return it."""
        other.place = self.place
        other.hit_count = self.hit_count
        other.miss_count = self.miss_count
        return other

    def is_like(self, other):
        """Return whether another cache is of the same class and has the same device, states and levels."""
        return self.KIND == other.KIND and self.served == other.served and self.place == other.place

    def __contains__(self, value):
        return is_name(value) and value in self.place[1]

    def __len__(self):
        return len(names_in(self.place[1]))

    def __eq__(self, other):
        return isinstance(other, Cache) and self.is_like(other)

    def __repr__(self):
        return f"{self.KIND}({len(names_in(self.place[1]))} held)"


class LoggedCache(Cache):
    """A cache that keeps a log of its requests."""

    KIND = "LoggedCache"

    def __init__(self, device):
        Cache.__init__(self, device)
        self.told = ()

    @classmethod
    def named(cls, title, lines):
        """Return an empty cache with the policy of a title."""
        return cls(("cache", named(title, lines)))

    @property
    def log(self):
        """The names and answers of all requests since the beginning or the last reset."""
        return self.told

    def request(self, name):
        """Request a name and return the answer."""
        check_name(name)
        self.check_room(1)
        return self.note(name)

    def request_all(self, *names):
        """Request names one after the other and return the answers."""
        check_history(names)
        self.check_room(len(names))
        return tuple([self.note(name) for name in names])

    def reset(self):
        """Let all lines become empty, and all states and numbers 0, and begin a new log."""
        super().reset()
        self.told = ()

    def twin(self):
        """Return a cache that is the same, also in its log, and goes on by itself."""
        other = self.handed_on(LoggedCache(self.served))
        other.told = self.told
        return other

    def check_room(self, many):
        """Raise TooManyRequests if the log has no room for so many more requests."""
        if len(self.told) + many > MOST_REQUESTS:
            raise TooManyRequests(MOST_REQUESTS)

    def note(self, name):
        """Let the device serve a request, and write it into the log."""
        hit = self.take(name)
        self.told = (*self.told, (name, hit))
        return hit


class ValueCache(Cache):
    """A cache that keeps a value for each name that it holds.

    The values that are not stored yet have their names in `unsaved`. While a function runs that was passed, the
    cache is `calling`.
    """

    KIND = "ValueCache"

    def __init__(self, device, load, store):
        Cache.__init__(self, device)
        for function in (load, store):
            if not is_function(function):
                raise InvalidFunction(function)
        self.loader = load
        self.storer = store
        self.worth = {}
        self.unsaved = ()
        self.calling = False

    @property
    def changed(self):
        """The ascending names with values that are not stored yet."""
        return self.unsaved

    def fetch(self, name):
        """Request a name and return its value."""
        self.check_free()
        check_name(name)
        self.demand(name)
        return self.worth[name]

    def put(self, name, value):
        """Request a name, give it a value and return the answer."""
        self.check_free()
        check_name(name)
        self.store_leaving(name)
        return self.settle(name, value, (*self.unsaved, name))

    def request(self, name):
        """Request a name as `fetch` does, and return the answer."""
        self.check_free()
        check_name(name)
        return self.demand(name)

    def request_all(self, *names):
        """Request names one after the other as `fetch` does, and return the answers."""
        self.check_free()
        check_history(names)
        return tuple([self.demand(name) for name in names])

    def flush(self):
        """Store each value that is not stored yet."""
        self.check_free()
        while self.unsaved:
            name, *rest = self.unsaved
            self.call(self.storer, name, self.worth[name])
            self.unsaved = tuple(rest)

    def value_of(self, name):
        """Return the value of a name that is held, without a request."""
        check_name(name)
        if name not in self:
            raise UnknownName(name)
        return self.worth[name]

    def reset(self):
        """Let all lines become empty, and all states and numbers 0, and let all values go."""
        self.check_free()
        super().reset()
        self.worth = {}
        self.unsaved = ()

    def twin(self):
        """Return a cache that is the same, also in its values, goes on by itself and is not busy."""
        other = self.handed_on(ValueCache(self.served, self.loader, self.storer))
        other.worth = dict(self.worth)
        other.unsaved = self.unsaved
        return other

    def check_free(self):
        """Raise Busy while a function runs that was passed."""
        if self.calling:
            raise Busy()

    def demand(self, name):
        """Request a name, load its value if it is not held, and return the answer."""
        value = self.worth[name] if name in self else self.call(self.loader, name)
        self.store_leaving(name)
        return self.settle(name, value, self.unsaved)

    def store_leaving(self, name):
        """Store each value that is not stored yet and whose name leaves the device behind a request."""
        behind = serve(self.served, self.place[0], self.place[1], name)[2]
        for other in self.unsaved:
            if other not in behind:
                self.call(self.storer, other, self.worth[other])

    def call(self, function, *told):
        """Call a function that was passed, and be busy as long as it runs."""
        self.calling = True
        try:
            return function(*told)
        finally:
            self.calling = False

    def settle(self, name, value, unsaved):
        """Let a request take effect: give the name its value, and let all go that are not held any more."""
        hit = self.take(name)
        worth = {**self.worth, name: value}
        held = names_in(self.place[1])
        self.worth = {other: worth[other] for other in held}
        self.unsaved = tuple([other for other in held if other in unsaved])
        return hit

    def has_same_values(self, other):
        """Return whether another cache that holds the same names has equal values and the same names changed."""
        if self.unsaved != other.unsaved:
            return False
        # Two dicts are also equal if a value is not equal to itself, so the values are compared one by one.
        return all([worth == other.worth[name] for name, worth in self.worth.items()])

    def __eq__(self, other):
        return isinstance(other, ValueCache) and self.is_like(other) and self.has_same_values(other)


def levels_of(device, contents):
    """Return the contents of a device level by level."""
    lines = device[1][0]
    return (contents,) if len(device) == 2 else (contents[:lines], contents[lines:])


def names_in(contents):
    """Return the ascending names that lines hold."""
    return tuple(sorted({name for name in contents if name is not None}))
