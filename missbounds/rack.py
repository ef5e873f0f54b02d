"""Devices by names with limits between them, which hold after every edit (points 5, 8 and 12)."""

from missbounds.edits import check_known, edited, is_edit
from missbounds.errors import Busy, InvalidEdit, InvalidFunction, InvalidTimes, NothingToUndo, TooManyEdits
from missbounds.kinds import is_function, is_whole
from missbounds.limits import MOST_EDITS
from missbounds.names import is_name


class Rack:
    """Devices by names, and limits between them.

    What is there at present is a triple: the devices, the limits, and for each edit that was done and not undone the
    edit with the devices and limits before it. None of these is modified, so all can be put back as they were.
    """

    def __init__(self):
        self.present = ({}, {}, ())
        self.working = False

    @property
    def names(self):
        """The ascending names of the devices."""
        return tuple(sorted(self.present[0]))

    @property
    def limits(self):
        """The ascending limits: a name, another one, a ratio and an excess."""
        return tuple(sorted([(*pair, *worth) for pair, worth in self.present[1].items()]))

    @property
    def edits(self):
        """The edits that were done and not undone."""
        return tuple([edit for edit, devices, limits in self.present[2]])

    @property
    def busy(self):
        """Whether several edits are being done."""
        return self.working

    def install(self, name, device):
        """Add a device."""
        self.check_free()
        self.perform(("install", name, device))

    def exchange(self, name, device):
        """Put another device in the place of one."""
        self.check_free()
        self.perform(("exchange", name, device))

    def drop(self, name):
        """Remove a device."""
        self.check_free()
        self.perform(("drop", name))

    def bind(self, name, other, ratio, excess):
        """Add a limit."""
        self.check_free()
        self.perform(("bind", name, other, ratio, excess))

    def unbind(self, name, other):
        """Remove a limit."""
        self.check_free()
        self.perform(("unbind", name, other))

    def do_all(self, *edits, watch=None):
        """Do edits in order, all or none, and call a function after each of them."""
        self.check_free()
        for index, edit in enumerate(edits):
            if not is_edit(edit):
                raise InvalidEdit(index)
        kept = self.present
        self.working = True
        try:
            for index, edit in enumerate(edits):
                self.perform(edit)
                if watch is not None:
                    watch(self, index)
            kept = None
        finally:
            self.working = False
            if kept is not None:
                self.present = kept

    def undo(self, *, times=1):
        """Take back the last edits."""
        self.check_free()
        if not is_whole(times) or times < 1:
            raise InvalidTimes(times)
        past = self.present[2]
        if len(past) < times:
            raise NothingToUndo()
        edit, devices, limits = past[-times]
        self.present = (devices, limits, past[:-times])

    def trial(self, work):
        """Call a function with the rack and return what it returns; take back what was done unless this is True."""
        self.check_free()
        if not is_function(work):
            raise InvalidFunction(work)
        kept = self.present
        try:
            result = work(self)
            if result is True:
                kept = None
            return result
        finally:
            if kept is not None:
                self.present = kept

    def check_free(self):
        """Raise Busy while several edits are being done."""
        if self.working:
            raise Busy()

    def perform(self, edit):
        """Do an edit."""
        devices, limits, past = self.present
        changed, bounded = edited(devices, limits, edit)
        if len(past) >= MOST_EDITS:
            raise TooManyEdits(MOST_EDITS)
        self.present = (changed, bounded, (*past, (edit, devices, limits)))

    def __getitem__(self, at):
        check_known(self.present[0], at)
        return self.present[0][at]

    def __contains__(self, value):
        return is_name(value) and value in self.present[0]

    def __iter__(self):
        raise TypeError("a rack is not walked over")

    def __len__(self):
        return len(self.present[0])

    def __eq__(self, other):
        return isinstance(other, Rack) and self.present[:2] == other.present[:2]

    def __repr__(self):
        return f"Rack({len(self.present[0])} devices, {len(self.present[1])} limits)"
