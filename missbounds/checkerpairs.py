"""Claims over two devices on all allowed steps, for the checker alone (points 9 to 13)."""

from missbounds.checkerforms import fits_fraction, fits_situation, fits_tuple, lines_of, members_of, worths_of
from missbounds.checkersteps import both_empty, count_allowed, step_behind, walk


def shows_within(one, other, allowed, ratio, excess, evidence):
    """Return whether fractions at situations show that `one` is within the ratio and the excess of `other`."""
    worths = worths_of(evidence, lambda value: fits_situation(one, other, value), fits_fraction)
    begin = both_empty(one, other)
    if worths is None or begin not in worths or is_less(excess, worths[begin]):
        return False
    for situation, worth in worths.items():
        for step in range(count_allowed(situation, allowed)):
            missed, far_missed, behind = step_behind(one, other, situation, step)
            if behind not in worths:
                return False
            top, bottom = count_of(ratio, missed, far_missed)
            rest = worths[behind]
            if is_less(worth, (top * rest[1] + rest[0] * bottom, bottom * rest[1])):
                return False
    return True


def shows_reached(one, other, allowed, ratio, excess, evidence):
    """Return whether steps show that neither the ratio nor the excess can be less."""
    if not fits_tuple(evidence, 3):
        return False
    ahead, circle, path = evidence
    told = walk(one, other, allowed, both_empty(one, other), path)
    if told is None or not is_equal(count_of(ratio, told[0], told[1]), excess):
        return False
    if ratio[0] == 0:
        return fits_tuple(ahead, 0) and fits_tuple(circle, 0)
    around = go_around(one, other, allowed, ahead, circle)
    return around is not None and around[1] >= 1 and count_of(ratio, around[0], around[1])[0] == 0


def shows_endless(one, other, allowed, evidence):
    """Return whether a circle of steps shows that no ratio has an excess."""
    if not fits_tuple(evidence, 2):
        return False
    around = go_around(one, other, allowed, evidence[0], evidence[1])
    return around is not None and around[0] >= 1 and around[1] == 0


def shows_alike(one, other, allowed, evidence):
    """Return whether situations show that all allowed steps are answered alike."""
    told = closed_steps(one, other, allowed, evidence)
    return told is not None and all([missed == far_missed for missed, far_missed, behind in told])


def shows_differ(one, other, allowed, evidence):
    """Return whether the last one of some allowed steps is answered differently."""
    if not isinstance(evidence, tuple):
        return False
    # Without a last step nothing is answered differently.
    ahead = walk(one, other, allowed, both_empty(one, other), evidence[:-1])
    last = None if ahead is None else walk(one, other, allowed, ahead[2], evidence[-1:])
    return last is not None and last[0] != last[1]


def shows_inside(one, other, allowed, evidence):
    """Return whether situations show that `one` is outside `other` after no allowed steps."""
    if closed_steps(one, other, allowed, evidence) is None:
        return False
    return not any([is_outside(one, situation) for situation in evidence])


def shows_outside(one, other, allowed, evidence):
    """Return whether `one` is outside `other` after some allowed steps."""
    told = walk(one, other, allowed, both_empty(one, other), evidence)
    return told is not None and is_outside(one, told[2])


def closed_steps(one, other, allowed, evidence):
    """Return a list of what all allowed steps from the situations of evidence lead to, as `step_behind` tells it.

    Returns None if they are no situations, one is twice, the beginning is missing, or an allowed step leads out.
    """
    situations = members_of(evidence, lambda value: fits_situation(one, other, value))
    if situations is None or both_empty(one, other) not in situations:
        return None
    told = []
    for situation in situations:
        told.extend([
            step_behind(one, other, situation, step) for step in range(count_allowed(situation, allowed))
        ])
    return told if all([behind in situations for missed, far_missed, behind in told]) else None


def is_outside(one, situation):
    """Return whether in a situation the first device holds a name that the other one does not hold."""
    lines = lines_of(one)
    near, far = situation[1][:lines], situation[1][lines:]
    return any([name is not None and name not in far for name in near])


def go_around(one, other, allowed, ahead, circle):
    """Return the misses of each device on a circle behind other steps, or None if it is no circle of allowed steps."""
    begun = walk(one, other, allowed, both_empty(one, other), ahead)
    told = None if begun is None else walk(one, other, allowed, begun[2], circle)
    return None if told is None or told[2] != begun[2] else (told[0], told[1])


def count_of(ratio, missed, far_missed):
    """Return the misses of one device less a ratio times those of the other one, as a pair of integers."""
    top, bottom = ratio
    return bottom * missed - top * far_missed, bottom


def is_less(one, other):
    """Return whether the quotient of a pair of integers with a lower part above 0 is less than that of another one."""
    return one[0] * other[1] < other[0] * one[1]


def is_equal(one, other):
    """Return whether two pairs of integers have the same quotient."""
    return one[0] * other[1] == other[0] * one[1]


CHECKS = {
    "within": shows_within, "reached": shows_reached, "endless": shows_endless, "alike": shows_alike,
    "differ": shows_differ, "inside": shows_inside, "outside": shows_outside,
}


def accepts_pair(word, told, evidence):
    """Return whether evidence shows a claim over two devices; what is told behind its word has its form."""
    if word not in CHECKS:
        return False
    check = CHECKS[word]
    return check(*told, evidence)
