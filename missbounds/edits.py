"""What edits make of the devices and limits of a rack.

Devices are a dict by names. Limits are a dict from pairs of names to pairs of a ratio and an excess. No edit modifies
them: each returns both anew, or raises an error.
"""

from missbounds.bounds import least_excess
from missbounds.errors import (
    BrokenLimit, InvalidExcess, InvalidRatio, Limited, NameTaken, TooManyDevices, UnknownLimit, UnknownName,
)
from missbounds.limits import MOST_DEVICES
from missbounds.names import check_name
from missbounds.policies import check_device
from missbounds.ratios import is_fraction


def install_device(devices, limits, name, device):
    """Return the devices with one more, and the limits."""
    check_name(name)
    if name in devices:
        raise NameTaken(name)
    check_device(device)
    if len(devices) >= MOST_DEVICES:
        raise TooManyDevices(MOST_DEVICES)
    return {**devices, name: device}, limits


def exchange_device(devices, limits, name, device):
    """Return the devices with another one in the place of one, and the limits."""
    check_known(devices, name)
    check_device(device)
    changed = {**devices, name: device}
    for near, far in limits_with(limits, name):
        check_limit(changed, near, far, limits[(near, far)])
    return changed, limits


def drop_device(devices, limits, name):
    """Return the devices without one, and the limits."""
    check_known(devices, name)
    pairs = limits_with(limits, name)
    if pairs:
        near, far = pairs[0]
        raise Limited(near, far)
    return {other: devices[other] for other in devices if other != name}, limits


def bind_devices(devices, limits, name, other, ratio, excess):
    """Return the devices, and the limits with this one between two names."""
    check_known(devices, name)
    check_known(devices, other)
    if not is_fraction(ratio):
        raise InvalidRatio(ratio)
    if not is_fraction(excess):
        raise InvalidExcess(excess)
    check_limit(devices, name, other, (ratio, excess))
    changed = {pair: limits[pair] for pair in limits}
    changed[(name, other)] = (ratio, excess)
    return devices, changed


def unbind_devices(devices, limits, name, other):
    """Return the devices, and the limits without the one between two names."""
    check_known(devices, name)
    check_known(devices, other)
    if (name, other) not in limits:
        raise UnknownLimit(name, other)
    return devices, {pair: limits[pair] for pair in limits if pair != (name, other)}


DEEDS = {
    "install": install_device, "exchange": exchange_device, "drop": drop_device, "bind": bind_devices,
    "unbind": unbind_devices,
}
# How many arguments stand behind each word.
ARGUMENTS = {"install": 2, "exchange": 2, "drop": 1, "bind": 4, "unbind": 2}


def is_edit(value):
    """Return whether any value is a tuple of the word of an edit and as many arguments as it has."""
    if not isinstance(value, tuple) or len(value) == 0 or not isinstance(value[0], str):
        return False
    return ARGUMENTS.get(value[0]) == len(value) - 1


def edited(devices, limits, edit):
    """Return what an edit makes of devices and limits."""
    word, *told = edit
    deed = DEEDS[word]
    return deed(devices, limits, *told)


def check_known(devices, name):
    """Raise InvalidName or UnknownName if any value is not the name of a device."""
    check_name(name)
    if name not in devices:
        raise UnknownName(name)


def limits_with(limits, name):
    """Return the pairs of names of the limits in which a name occurs, in ascending order."""
    return sorted([pair for pair in limits if name in pair])


def check_limit(devices, name, other, limit):
    """Raise BrokenLimit if a limit does not hold. Raises TooManySituations if it cannot be looked at."""
    ratio, excess = limit
    least = least_excess(devices[name], devices[other], ratio)
    if least is None or least[0] * excess[1] > excess[0] * least[1]:
        raise BrokenLimit(name, other)
