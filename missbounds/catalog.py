"""Well-known policies in their plain forms, for each number of lines."""

from missbounds.errors import InvalidLines, UnknownName
from missbounds.kinds import is_between
from missbounds.limits import MOST_LINES
from missbounds.stages import plain_form


def lru(lines):
    """Return the policy that replaces the line whose name was requested longest ago."""
    return by_order(lines, 0, put_last)


def mru(lines):
    """Return the policy that replaces the line whose name was requested last."""
    return by_order(lines, -1, put_last)


def fifo(lines):
    """Return the policy that replaces the line whose name came into the cache longest ago."""
    return by_order(lines, 0, leave)


def lifo(lines):
    """Return the policy that replaces the line whose name came into the cache last."""
    return by_order(lines, -1, leave)


def clock(lines):
    """Return the policy of a hand that passes by lines that were requested, once each time."""
    check_lines(lines)
    return plain_form(((), 0), lambda state: turn_hand(state, lines), set_bit)


def bits(lines):
    """Return the policy that replaces the first line that was not requested since the last clearing."""
    check_lines(lines)

    def hit(state, line):
        return mark(state, line, lines)

    return plain_form((), lambda state: take_unset(state, lines), hit)


def plru(lines):
    """Return the policy of a tree of bits that point away from what was requested."""
    check_lines(lines)
    if lines == 3:
        raise InvalidLines(lines)
    return plain_form((0,) * (lines - 1), follow_tree, point_away)


def named(title, lines):
    """Return the policy that the function with a title returns."""
    # Only a string is looked up: other values may have no hash.
    if not isinstance(title, str) or title not in TITLES:
        raise UnknownName(title)
    make = TITLES[title]
    return make(lines)


TITLES = {"lru": lru, "mru": mru, "fifo": fifo, "lifo": lifo, "clock": clock, "bits": bits, "plru": plru}


def check_lines(value):
    """Raise InvalidLines if any value is not a number of lines."""
    if not is_between(value, 1, MOST_LINES):
        raise InvalidLines(value)


def by_order(lines, end, hit):
    """Return the policy that replaces the line at an end of an order; `hit` tells what a hit does to the order.

    A state is the tuple of the lines that are filled, in this order. They are filled one after the other, so
    their number is the first one that is empty.
    """
    check_lines(lines)

    def miss(order):
        victim = order[end] if len(order) == lines else len(order)
        return victim, put_last(order, victim)

    return plain_form((), miss, hit)


def put_last(order, line):
    """Return an order with a line at its end."""
    return *[other for other in order if other != line], line


def leave(order, line):
    """Return an order as it is."""
    return order


def set_bit(state, line):
    """Return a state of `clock` behind a hit on a line."""
    marks, hand = state
    return marks[:line] + (1,) + marks[line + 1:], hand


def turn_hand(state, lines):
    """Return the line that a miss of `clock` replaces, and the state behind it.

    A state has the bits of the lines that are filled, and the line at the hand.
    """
    marks, hand = state
    if len(marks) < lines:
        return len(marks), ((*marks, 1), (len(marks) + 1) % lines)
    left = list(marks)
    while left[hand] == 1:
        left[hand] = 0
        hand = (hand + 1) % lines
    left[hand] = 1
    return hand, (tuple(left), (hand + 1) % lines)


def take_unset(state, lines):
    """Return the line that a miss of `bits` replaces, and the state behind it.

    A state has the bits of the lines that are filled; those of the other lines are 0.
    """
    if len(state) < lines:
        victim = len(state)
    else:
        victim = state.index(0) if 0 in state else 0
    return victim, mark(state, victim, lines)


def mark(state, line, lines):
    """Return a state of `bits` behind a request of a line."""
    marks = (*state[:line], 1, *state[line + 1:])
    if marks == (1,) * lines:
        return tuple([1 if other == line else 0 for other in range(lines)])
    return marks


def follow_tree(tree):
    """Return the line to which the bits of `plru` point, and the bits behind a miss."""
    if len(tree) == 3:
        line = 2 * tree[0] + tree[1 + tree[0]]
    else:
        line = sum(tree)
    return line, point_away(tree, line)


def point_away(tree, line):
    """Return the bits of `plru` behind a request of a line: those on the way to it point away from it.

    There is a bit less than lines: none, one, or the first one and those of the two halves.
    """
    if len(tree) < 3:
        return tuple([1 - line for bit in tree])
    half, place = divmod(line, 2)
    if half == 0:
        return 1, 1 - place, tree[2]
    return 0, tree[1], 1 - place
