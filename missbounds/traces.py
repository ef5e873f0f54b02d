"""What devices answer, also in long histories that repeat (points 7 and 8)."""

from missbounds.devices import serve, start_of
from missbounds.errors import InvalidTimes
from missbounds.kinds import is_between
from missbounds.limits import MOST_TIMES
from missbounds.names import check_history
from missbounds.policies import check_device


def answers(device, names):
    """Return the answers of a device to the requests of a history."""
    check_device(device)
    check_history(names)
    told = []
    states, contents = start_of(device)
    for name in names:
        hit, states, contents = serve(device, states, contents, name)
        told.append(hit)
    return tuple(told)


def count_misses(device, names):
    """Return the number of misses of a device in a history."""
    return answers(device, names).count(False)


def far_misses(device, ahead, circle, times):
    """Return the misses of a device in the history `ahead`, and then in the history `circle` so many times."""
    check_device(device)
    check_history(ahead)
    check_history(circle)
    if not is_between(times, 0, MOST_TIMES):
        raise InvalidTimes(times)
    missed, behind = run(device, start_of(device), ahead)
    first, totals = run_rounds(device, behind, circle, times)
    if times < len(totals):
        return missed + totals[times]
    laps, rest = divmod(times - first, len(totals) - 1 - first)
    return missed + totals[first + rest] + laps * (totals[-1] - totals[first])


def long_run(device, circle):
    """Return after how many rounds of a circle a device repeats itself, with which period, and its misses in it."""
    check_device(device)
    check_history(circle)
    ahead, totals = run_rounds(device, start_of(device), circle, None)
    return ahead, len(totals) - 1 - ahead, totals[-1] - totals[ahead]


def run_rounds(device, place, circle, most):
    """Let a circle come again until states and contents are as before, or so many rounds are over.

    `place` has the states and the contents; if `most` is None, any number of rounds is run. Return the round
    before which they were as behind the last one, or None, and the misses in the first 0, 1, 2 .. rounds.
    """
    rounds = {}
    totals = [0]
    while place not in rounds and len(rounds) != most:
        rounds[place] = len(rounds)
        missed, place = run(device, place, circle)
        totals.append(totals[-1] + missed)
    return rounds.get(place), totals


def run(device, place, names):
    """Return the misses of a device in a history from a place on, and the place behind it."""
    states, contents = place
    missed = 0
    for name in names:
        hit, states, contents = serve(device, states, contents, name)
        if not hit:
            missed += 1
    return missed, (states, contents)
