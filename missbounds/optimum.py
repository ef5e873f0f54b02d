"""The least possible misses of a history, by names that are kept between their requests (point 17)."""

from missbounds.errors import InvalidLines, TooManyRequests
from missbounds.kinds import is_between, is_truth, is_tuple
from missbounds.limits import MOST_KEPT, MOST_LINES
from missbounds.names import check_history


def is_keeping(names, lines, value):
    """Return whether any value is a keeping of a history for a number of lines."""
    check_known(names, lines)
    if not is_tuple(value, len(names), len(names)) or not all([is_truth(kept) for kept in value]):
        return False
    # Each name that is kept, from the time of its request to that of the next one.
    spans = [(start, follow) for start, follow in enumerate(next_requests(names)) if value[start]]
    if not all([follow is not None for start, follow in spans]):
        return False
    return all([len([start for start, follow in spans if start < time < follow]) < lines for time in range(len(names))])


def least_misses(names, lines):
    """Return the misses of the keepings of a history with the fewest."""
    return best_keeping(names, lines).count(False)


def best_keeping(names, lines):
    """Return a keeping of a history with the least misses."""
    check_known(names, lines)
    follows = next_requests(names)
    kept = []
    others = []
    for time in range(len(names)):
        kept.extend([start for start in others if follows[start] == time])
        others = [start for start in others if follows[start] > time]
        if len(others) == lines:
            # All others are free again before the one with the latest request, so none is better to let go.
            others.remove(max(others, key=lambda start: follows[start]))
        if follows[time] is not None:
            others.append(time)
    return tuple([start in kept for start in range(len(names))])


def best_weights(names, lines):
    """Return weights that show that no keeping of a history has fewer misses than the best one."""
    check_known(names, lines)
    times = cheapest_times(next_requests(names), lines - 1)
    # A weight above 1 costs more than 1 and shows no more.
    return tuple([1 if time in times else 0 for time in range(len(names))])


def check_known(names, lines):
    """Raise the errors for a history that is known as a whole, and a number of lines."""
    check_history(names)
    if not is_between(lines, 1, MOST_LINES):
        raise InvalidLines(lines)
    if len(names) > MOST_KEPT:
        raise TooManyRequests(MOST_KEPT)


def next_requests(names):
    """Return for each request the index of the next one for the same name, or None."""
    later = {}
    follows = []
    for index in reversed(range(len(names))):
        follows.append(later.get(names[index]))
        later[names[index]] = index
    return follows[::-1]


def cheapest_times(follows, price):
    """Return the times of requests with the weight 1, in descending order, so that the bound is the least.

    Each of them costs the price, and each request that is followed by another one for its name costs 1 if none of
    them is between the two.
    """
    costs = {-1: 0}
    sources = {}
    for time in range(len(follows) + 1):
        missed = 0
        offers = []
        for before in range(time - 1, -2, -1):
            if before >= 0 and follows[before] is not None and follows[before] <= time:
                missed += 1
            offers.append((costs[before] + missed, before))
        cost, sources[time] = min(offers)
        costs[time] = cost + price
    times = [sources[len(follows)]]
    while times[-1] >= 0:
        times.append(sources[times[-1]])
    return times[:-1]
