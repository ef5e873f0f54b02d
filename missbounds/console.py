"""A rack that is told by lines."""

from missbounds.bounds import bound
from missbounds.catalog import named
from missbounds.errors import InvalidCommand
from missbounds.plains import difference
from missbounds.rack import Rack
from missbounds.ratios import is_fraction
from missbounds.situations import names_of
from missbounds.traces import answers

DIGITS = "0123456789"
TWO_LEVELS = ("plain", "inclusive", "victim")

# What stands behind the word of each command. Behind `run` more words may follow.
FORMS = {
    "install": ("word", "word", "number"),
    "levels": ("word", "mode", "word", "number", "word", "number"),
    "drop": ("word",),
    "undo": (),
    "bind": ("word", "word", "fraction", "fraction"),
    "names": (),
    "bound": ("word", "word"),
    "differ": ("word", "word"),
    "run": ("word", "word"),
}


def say_install(rack, name, title, lines):
    """Add a cache."""
    rack.install(name, ("cache", named(title, lines)))
    return "ok"


def say_levels(rack, name, mode, title, lines, low_title, low_lines):
    """Add a device of two levels."""
    upper = named(title, lines)
    rack.install(name, (mode, upper, named(low_title, low_lines)))
    return "ok"


def say_drop(rack, name):
    """Remove a device."""
    rack.drop(name)
    return "ok"


def say_undo(rack):
    """Take back the last edit."""
    rack.undo()
    return "ok"


def say_bind(rack, name, other, ratio, excess):
    """Add a limit."""
    rack.bind(name, other, ratio, excess)
    return "ok"


def say_names(rack):
    """Return the names of the devices."""
    return " ".join(rack.names) if rack.names else "none"


def say_bound(rack, name, other):
    """Return the least ratio and excess of two devices."""
    one = rack[name]
    least = bound(one, rack[other])
    return "endless" if least is None else " ".join([written(fraction) for fraction in least])


def say_differ(rack, name, other):
    """Return the names of the least of the shortest steps that two devices answer differently."""
    one = rack[name]
    far = rack[other]
    steps = difference(one, far)
    return "alike" if steps is None else " ".join(names_of(one, far, steps))


def say_run(rack, name, *names):
    """Return the answers of a device to names."""
    return "".join(["+" if hit else "-" for hit in answers(rack[name], names)])


DEEDS = {
    "install": say_install, "levels": say_levels, "drop": say_drop, "undo": say_undo, "bind": say_bind,
    "names": say_names, "bound": say_bound, "differ": say_differ, "run": say_run,
}


class Console:
    """A rack that is told by lines."""

    def __init__(self):
        self.shelf = Rack()

    @property
    def rack(self):
        """The rack."""
        return self.shelf

    def say(self, command):
        """Perform a command and return its answer."""
        word, *told = understood(command)
        deed = DEEDS[word]
        return deed(self.shelf, *told)


def understood(command):
    """Return a list of the word of a command and what stands behind it, as it is meant. Raises InvalidCommand."""
    if not isinstance(command, str) or "\n" in command:
        raise InvalidCommand(command)
    word, *parts = command.split(" ")
    form = FORMS.get(word)
    if word == "run":
        form = ("word",) * max(2, len(parts))
    if form is None or len(parts) != len(form):
        raise InvalidCommand(command)
    told = [meant(kind, part) for kind, part in zip(form, parts)]
    if None in told:
        raise InvalidCommand(command)
    return [word, *told]


def meant(kind, part):
    """Return what a part of a command means: a string, an integer or a fraction. None if it has another form."""
    if part == "":
        return None
    if kind == "number":
        return number_in(part)
    if kind == "fraction":
        return fraction_in(part)
    return None if kind == "mode" and part not in TWO_LEVELS else part


def number_in(part):
    """Return the integer of a part without leading zeros, or None."""
    if part == "" or not all([sign in DIGITS for sign in part]) or part[0] == "0" and part != "0":
        return None
    return int(part)


def fraction_in(part):
    """Return the fraction of a part, which is an integer or has a lower part above 1, or None."""
    numbers = [number_in(text) for text in part.split("/")]
    if None in numbers:
        return None
    if len(numbers) == 1:
        return numbers[0], 1
    return tuple(numbers) if numbers[1] > 1 and is_fraction(tuple(numbers)) else None


def written(fraction):
    """Return the text of a fraction."""
    top, bottom = fraction
    return f"{top}" if bottom == 1 else f"{top}/{bottom}"
