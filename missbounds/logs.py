"""Which devices a log can come from, and what tells them apart (point 18)."""

from missbounds.errors import InvalidDevices, InvalidLog
from missbounds.kinds import is_truth, is_tuple
from missbounds.limits import MOST_DEVICES, MOST_REQUESTS
from missbounds.names import is_name
from missbounds.pairs import explore_from, first_difference, place_behind, renumbered
from missbounds.policies import check_device, is_device
from missbounds.situations import names_from
from missbounds.traces import answers


def agrees(device, log):
    """Return whether a device agrees with a log."""
    check_device(device)
    check_log(log)
    return gives(device, log)


def possible(devices, log):
    """Return the indexes of the devices that agree with a log."""
    check_devices(devices)
    check_log(log)
    return tuple([index for index, device in enumerate(devices) if gives(device, log)])


def telling(devices, log):
    """Return one of the shortest histories behind a log that tells two devices apart which agree with it, or None."""
    agreeing = [devices[index] for index in possible(devices, log)]
    names = [name for name, answer in log]
    found = []
    for index, one in enumerate(agreeing):
        found.extend([apart(one, other, names) for other in agreeing[index + 1:]])
    return min([history for history in found if history is not None], key=len, default=None)


def apart(one, other, names):
    """Return one of the shortest histories behind these names that is answered differently at last, or None."""
    place = place_behind(one, other, names)
    steps = first_difference(explore_from(one, other, (place[0], renumbered(place[1])), None)[1])
    return None if steps is None else names_from(one, other, place, steps)


def gives(device, log):
    """Return whether a device answers the names of a log as it says."""
    return answers(device, tuple([name for name, answer in log])) == tuple([answer for name, answer in log])


def check_devices(value):
    """Raise InvalidDevices if any value is not a tuple of devices."""
    if not is_tuple(value, 1, MOST_DEVICES):
        raise InvalidDevices(None)
    for index, device in enumerate(value):
        if not is_device(device):
            raise InvalidDevices(index)


def check_log(value):
    """Raise InvalidLog if any value is not a log."""
    if not is_tuple(value, 0, MOST_REQUESTS):
        raise InvalidLog(None)
    for index, pair in enumerate(value):
        if not is_tuple(pair, 2, 2) or not is_name(pair[0]) or not is_truth(pair[1]):
            raise InvalidLog(index)
