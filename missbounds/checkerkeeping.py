"""The claim that some misses of a history are the least, for the checker alone (point 17)."""

from missbounds.checkerforms import fits_numbers, fits_truths, fits_tuple


def shows_least(names, lines, many, evidence):
    """Return whether a keeping has so many misses, and weights show that none has fewer."""
    if not fits_tuple(evidence, 2) or not fits_tuple(evidence[0], len(names)):
        return False
    kept, weights = evidence
    if not fits_truths(kept) or not fits_numbers(weights, len(names)) or kept.count(False) != many:
        return False
    spans = spans_of(names)
    held = [(start, end) for start, end in spans if kept[start]]
    # Each name that is kept is requested again exactly if each True has a span.
    if len(held) != kept.count(True) or not all([others_at(held, time) < lines for time in range(len(names))]):
        return False
    most = (lines - 1) * sum(weights)
    for start, end in spans:
        most += max(0, 1 - sum(weights[start + 1:end]))
    return most <= len(held)


def spans_of(names):
    """Return the pairs of the indexes of a request and of the next one for the same name."""
    last = {}
    spans = []
    for index, name in enumerate(names):
        if name in last:
            spans.append((last[name], index))
        last[name] = index
    return spans


def others_at(held, time):
    """Return how many names that are kept are neither requested at a time nor begun or ended there."""
    return len([start for start, end in held if start < time < end])
