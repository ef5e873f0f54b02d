"""Policies and devices for the tests, right ones and wrong ones."""

from helper import at, nested, odd_values, put, spots

LRU = (2, ((0, 1, (1, 0)), (1, 0, (1, 0))))
ONE = (1, ((0, 0, (0,)),))
THREE = (3, ((2, 1, (0, 1, 0)), (0, 0, (1, 1, 1))))
FOUR = (4, ((3, 2, (0, 1, 2, 0)), (1, 0, (2, 2, 1, 0)), (0, 1, (1, 0, 0, 2))))
LEVELS = ("plain", "inclusive", "victim")


def policy_of(lines, states):
    """Return a policy with so many lines and states, in which each line and state occurs."""
    rows = [
        (state % lines, (state + 1) % states, tuple((state + line) % states for line in range(lines)))
        for state in range(states)
    ]
    return lines, tuple(rows)


def right_policies():
    """Return policies of all numbers of lines, with few and with many states."""
    made = [policy_of(lines, states) for lines in (1, 2, 3, 4) for states in (1, 2, 5, 63, 64)]
    return made + [LRU, ONE, THREE, FOUR]


def right_devices():
    """Return devices of each mode, with levels of equal and of different kinds."""
    pairs = [(LRU, LRU), (ONE, FOUR), (FOUR, ONE), (THREE, LRU), (policy_of(4, 64), policy_of(1, 64))]
    devices = [("cache", policy) for policy in right_policies()]
    return devices + [(mode, upper, lower) for mode in LEVELS for upper, lower in pairs]


def small_devices():
    """Return a device of each mode, small enough to be changed at each place."""
    return [("cache", THREE), ("plain", LRU, ONE), ("inclusive", ONE, LRU), ("victim", LRU, THREE)]


def changed_anywhere(whole):
    """Yield what nested tuples become if one value at any depth is replaced by one of another kind.

    The strings are left out, and what is not valid because of its size is told elsewhere.
    """
    for path in spots(whole):
        inner = at(whole, path)
        for odd in odd_values():
            if not isinstance(inner, str) or not isinstance(odd, str):
                yield put(whole, path, odd)
        if isinstance(inner, tuple):
            yield put(whole, path, list(inner))
            yield put(whole, path, dict(enumerate(inner)))
            yield put(whole, path, (inner,))
            yield put(whole, path, inner[::-1] + (0,))
            yield put(whole, path, (0,) + inner)
        else:
            yield put(whole, path, (inner,))
            yield put(whole, path, [inner])
            yield put(whole, path, {inner: inner})
            yield put(whole, path, str(inner) + "0")


def wrong_rows(lines, states):
    """Yield what is no row of a policy with so many lines and states, each wrong in one place."""
    hits = (states - 1,) * lines
    for victim in (-1, lines, lines + 1, 10 ** 39, True, False, None, "0", (0,)):
        yield victim, 0, hits
    for state in (-1, states, states + 1, 64, 10 ** 39, True, False, None, "0", (0,)):
        yield 0, state, hits
        for line in range(lines):
            yield 0, 0, put(hits, (line,), state)
    for wrong in (hits[1:], hits + (0,), (), list(hits), 0, None, "0" * lines, dict(enumerate(hits)), set(hits)):
        yield 0, 0, wrong
    yield 0, 0
    yield 0, 0, hits, 0
    yield 0, hits, 0
    yield hits, 0, 0
    yield 0, *hits
    yield [0, 0, hits]
    yield ()


def wrong_policies():
    """Yield what is no policy, because of numbers, lengths or kinds."""
    for lines in (1, 2, 3, 4):
        for states in (1, 2, 64):
            rows = policy_of(lines, states)[1]
            for other in {-1, 0, 1, 2, 3, 4, 5, 64, 10 ** 39} - {lines}:
                yield other, rows
            for wrong in wrong_rows(lines, states):
                yield lines, rows[:-1] + (wrong,)
                yield lines, (wrong,) + rows[1:]
        yield lines, ()
        yield policy_of(lines, 65)
        yield lines, ((0, 0, (0,) * lines),) * 65
        yield lines, policy_of(lines, 2)[1][:1]
        yield lines, policy_of(lines, 64)[1][:63]
        yield policy_of(lines, 2)[::-1]
        yield policy_of(lines, 2) + (0,)
        yield policy_of(lines, 2)[:1]
        yield policy_of(lines, 2)[1]
        yield lines, policy_of(lines, 2)[1][0]
    yield from ((0, ((0, 0, ()),)), (5, ((0, 0, (0,) * 5),)), (5, ((4, 0, (0,) * 5),)), (-1, ((0, 0, ()),)))


def wrong_devices():
    """Yield what is no device, because of the mode or of what stands behind it."""
    words = ("", "Cache", "CACHE", " cache", "cache ", "cache\n", "plain\n", "Plain", "exclusive", "none", "lru")
    for mode in words + (None, True, False, 0, 1, (), ("cache",), ["cache"], {}, {"cache"}, b"cache", b"plain"):
        yield mode, LRU
        yield mode, LRU, LRU
    for mode in ("cache",) + LEVELS:
        yield (mode,)
        yield [mode, LRU]
        yield [mode, LRU, LRU]
        yield LRU, mode
        yield LRU, LRU, mode
        yield LRU, mode, LRU
        yield mode, LRU, LRU, LRU
        yield mode, (LRU, LRU)
        yield mode, *LRU
        yield mode, (mode, LRU)
        yield mode, ("cache", LRU), ("cache", LRU)
        yield {mode: LRU}
    yield "cache", LRU, LRU
    for mode in LEVELS:
        yield mode, LRU
        yield mode, LRU, None
        yield mode, None, LRU
    yield from (LRU, (LRU,), (LRU, LRU), (LRU, LRU, LRU), "cache", ())


def random_policy(chance, lines, states):
    """Return a policy with so many lines and states, by a source of numbers."""
    rows = [
        (chance.randrange(lines), chance.randrange(states), tuple([chance.randrange(states) for _ in range(lines)]))
        for _ in range(states)
    ]
    return lines, tuple(rows)


def random_device(chance, mode, most_lines=4, most_states=5):
    """Return a device of a mode, each level with up to so many lines and states."""
    levels = [
        random_policy(chance, chance.randint(1, most_lines), chance.randint(1, most_states))
        for _ in range(1 if mode == "cache" else 2)
    ]
    return (mode, *levels)


def random_history(chance, names, length):
    """Return a history of so many requests for some of the names."""
    return tuple([chance.choice(names) for _ in range(length)])


def wrong_histories():
    """Return values that are no histories, each with the index that tells it."""
    found = [(value, None) for value in odd_values() if not isinstance(value, tuple)]
    found += [(["a"], None), ("a", None), ("abc", None), ({"a": 1}, None), (0, None), (1, None), (nested((), 99), 0)]
    found += [(("a",) * 2001, None), ((1,) * 2001, None), (("",) * 2001, None), (("a",) * 5000, None)]
    for wrong in wrong_names():
        found += [((wrong,), 0), (("a", wrong), 1), (("abc", "b", wrong, wrong, "c", None), 2)]
    found += [(("a",) * 1999 + ("",), 1999), (("",) + ("a",) * 1999, 0), ((1,) * 2000, 0), (("a", ("b",), "c"), 1)]
    return found


def wrong_names():
    """Return values that are no names."""
    texts = ["abcdefg", "A", "aB", "a b", " a", "a ", "a\n", "\n", "`", "{", "a1", "a-b", "a_b", "a" * 20000, "None"]
    odd = [value for value in odd_values() if not isinstance(value, str)]
    return texts + odd + ["", "0", "1", 0, ("a",), ["a"], b"a", {"a"}]


def cycle_device(hits, misses):
    """Return a cache of one line whose state counts hits up to one number and misses up to another one."""
    rows = [
        (0, (hit * misses + (miss + 1) % misses), ((hit + 1) % hits * misses + miss,))
        for hit in range(hits) for miss in range(misses)
    ]
    return "cache", (1, tuple(rows))


def counter(states, ahead=0):
    """Return a cache of one line whose state goes on with each request, in a circle behind some first states."""
    rows = [(0, state + 1, (state + 1,)) for state in range(ahead + states - 1)]
    return "cache", (1, (*rows, (0, ahead, (ahead,))))


def hit_counter(states, ahead=0):
    """Return a cache of one line whose state goes on with hits alone, behind first states that all requests pass."""
    rows = [(0, state + 1, (state + 1,)) for state in range(ahead)]
    rows += [(0, state, (state + 1 if state < ahead + states - 1 else ahead,)) for state in range(ahead, ahead + states)]
    return "cache", (1, tuple(rows))


def miss_counter(states):
    """Return a cache of one line whose state goes on with misses alone."""
    return "cache", (1, tuple([(0, (state + 1) % states, (state,)) for state in range(states)]))


# 600 and 601 situations: with both counters all pairs of states come, behind the first one or two situations.
PAIR_600 = (hit_counter(26, 2), miss_counter(23))
PAIR_601 = (hit_counter(25), miss_counter(24))
PAIR_SMALL = (("cache", ONE), ("cache", LRU))


def ring(places, names=1):
    """Return a program of one circle of so many places, with so many names in turn."""
    return tuple([("abcdefgh"[place % names], ((place + 1) % places,)) for place in range(places)])


# A device and a program with 600 moments, the first two and 26 places with 23 states, and ones with 601.
PROGRAM_600 = (counter(23), (("c", (1,)), *[("ab"[place % 2], (place % 26 + 1,)) for place in range(1, 27)]))
PROGRAM_601 = (counter(25), ring(24, 8))
