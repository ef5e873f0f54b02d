"""Claims over the paths of a program and over a history, for the checker alone (points 8 and 16)."""

from missbounds.checkerforms import fits_moment, fits_number, fits_range, fits_tuple, members_of, worths_of
from missbounds.checkersteps import empty, request


def shows_always(device, program, place, answer, evidence):
    """Return whether moments show that the request of a place has this answer whenever a path comes there."""
    moments = members_of(evidence, lambda value: fits_moment(device, program, value))
    if moments is None or place >= len(program) or (0, *empty(device)) not in moments:
        return False
    for moment in moments:
        hit, later = later_moments(device, program, moment)
        if moment[0] == place and hit != answer:
            return False
        if not all([behind in moments for behind in later]):
            return False
    return True


def shows_sometimes(device, program, place, answer, evidence):
    """Return whether a path shows that the request of a place can have this answer."""
    told = run_path(device, program, evidence)
    return told is not None and evidence[-1] == place and told[0][-1] == answer


def shows_at_most(device, program, many, evidence):
    """Return whether numbers at moments show that no path has more misses."""
    worths = worths_of(evidence, lambda value: fits_moment(device, program, value), fits_number)
    begin = (0, *empty(device))
    if worths is None or begin not in worths or worths[begin] > many:
        return False
    for moment, worth in worths.items():
        hit, later = later_moments(device, program, moment)
        rest = worth if hit else worth - 1
        if rest < 0 or not all([behind in worths and worths[behind] <= rest for behind in later]):
            return False
    return True


def shows_so_many(device, program, many, evidence):
    """Return whether a path has just so many misses."""
    told = run_path(device, program, evidence)
    return told is not None and told[0].count(False) == many


def shows_no_most(device, program, evidence):
    """Return whether a path with a circle shows that there is no greatest number of misses."""
    if not fits_tuple(evidence, 2) or not isinstance(evidence[1], tuple):
        return False
    ahead, circle = evidence
    begun = run_path(device, program, ahead)
    told = None if begun is None else run_path(device, program, ahead + circle)
    if told is None or told[1] != begun[1] or (ahead + circle)[-1] != ahead[-1]:
        return False
    return False in told[0][len(ahead):]


def shows_answers(device, names, answers, evidence):
    """Return whether the device gives these answers, for which no evidence is asked."""
    return evidence is None and run_names(device, names)[0] == list(answers)


def later_moments(device, program, moment):
    """Return whether the request of a moment is a hit, and a list of the moments that can follow it."""
    place, states, contents = moment
    name, targets = program[place]
    hit, later_states, later = request(device, states, contents, name)
    return hit, [(target, later_states, later) for target in targets]


def run_path(device, program, path):
    """Return what `run_names` returns for the names of any value as a path, or None if it is no path."""
    if not isinstance(path, tuple) or len(path) == 0 or not all([fits_range(place, len(program)) for place in path]):
        return None
    if path[0] != 0 or not all([later in program[place][1] for place, later in zip(path, path[1:])]):
        return None
    return run_names(device, [program[place][0] for place in path])


def run_names(device, names):
    """Return a list of the answers to names from the empty device on, and the states and the lines behind them."""
    states, contents = empty(device)
    told = []
    for name in names:
        hit, states, contents = request(device, states, contents, name)
        told.append(hit)
    return told, (states, contents)


CHECKS = {
    "always": shows_always, "sometimes": shows_sometimes, "at most": shows_at_most, "so many": shows_so_many,
    "no most": shows_no_most, "answers": shows_answers,
}


def accepts_path(word, told, evidence):
    """Return whether evidence shows a claim over a program or a history; what is told behind its word has its form."""
    if word not in CHECKS:
        return False
    check = CHECKS[word]
    return check(*told, evidence)
