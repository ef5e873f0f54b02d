"""Slow accounts of keepings, apart from the package (point 17)."""

import itertools


def next_one(names, at):
    """Return the index of the next request for the same name, or None."""
    return next((later for later in range(at + 1, len(names)) if names[later] == names[at]), None)


def is_allowed(names, lines, kept):
    """Return whether truths are a keeping: look at each request who else is kept at its time."""
    if any(mark and next_one(names, at) is None for at, mark in enumerate(kept)):
        return False
    for time in range(len(names)):
        others = [at for at in range(time) if kept[at] and next_one(names, at) > time]
        if len(others) > lines - 1:
            return False
    return True


def each_keeping(names, lines):
    """Yield all keepings of a history."""
    marks = [(False,) if next_one(names, at) is None else (False, True) for at in range(len(names))]
    for kept in itertools.product(*marks):
        if is_allowed(names, lines, kept):
            yield kept


def fewest(names, lines):
    """Return the least misses, by all keepings."""
    return len(names) - max(sum(kept) for kept in each_keeping(names, lines))


def shown_by(names, lines, weights):
    """Return how many True a keeping has at most, by weights."""
    most = (lines - 1) * sum(weights)
    for at in range(len(names)):
        later = next_one(names, at)
        if later is not None:
            between = sum(weights[at + 1:later])
            most += 1 - between if between < 1 else 0
    return most


def each_shape(length, most, begun=()):
    """Yield the histories of so many requests for at most so many names, of which the letters come in their order."""
    if len(begun) == length:
        yield begun
        return
    # Which letter stands for a name does not matter, so a new one is always the next letter.
    for letter in "abcdefgh"[:min(len(set(begun)) + 1, most)]:
        yield from each_shape(length, most, begun + (letter,))
