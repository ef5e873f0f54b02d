"""Whether claims are true, by looking at short histories and moves, apart from the checker and the evidence."""

import keepings
import reference
from missbounds.policies import is_device, is_policy
from missbounds.programs import is_program

LENGTH = 5
KINDS = {
    "within": "DDAFF", "reached": "DDAFF", "endless": "DDA", "alike": "DDA", "differ": "DDA", "inside": "DDA",
    "outside": "DDA", "forgets": "PN", "remembers": "PN", "never forgets": "P", "always": "DGNT", "sometimes": "DGNT",
    "at most": "DGN", "so many": "DGN", "no most": "DG", "least": "HLN", "answers": "DHB",
}


def is_number(value):
    return value.__class__ is int and value >= 0


def is_name(value):
    return value.__class__ is str and 1 <= len(value) <= 6 and set(value) <= set("abcdefghijklmnopqrstuvwxyz")


def is_ratio(value):
    if value.__class__ is not tuple or len(value) != 2 or not all(is_number(part) for part in value):
        return False
    top, bottom = value
    return bottom >= 1 and all(top % by or bottom % by for by in range(2, min(bottom, 10 ** 4) + 1))


FITS = {
    "D": is_device, "P": is_policy, "G": is_program, "F": is_ratio, "N": is_number,
    "T": lambda value: value.__class__ is bool,
    "A": lambda value: value is None or is_number(value) and 1 <= value <= 12,
    "L": lambda value: is_number(value) and 1 <= value <= 4,
    "H": lambda value: value.__class__ is tuple and len(value) <= 2000 and all(is_name(name) for name in value),
    "B": lambda value: value.__class__ is tuple and all(answer.__class__ is bool for answer in value),
}


def is_claim(value):
    """Return whether any value has the form of a claim."""
    if value.__class__ is not tuple or not value or value[0] not in KINDS:
        return False
    kinds = KINDS[value[0]]
    return len(value) == 1 + len(kinds) and all(FITS[kind](part) for kind, part in zip(kinds, value[1:]))


def is_true(claim, length=LENGTH):
    """Return whether nothing in short histories speaks against a claim, and what can happen does happen in some."""
    word, *told = claim
    return JUDGES[word](*told, length)


def counted(one, other, allowed, length):
    """Yield for all short steps the misses of both devices, and the pair behind them."""
    for steps, pair, told in reference.each_steps(one, other, length, allowed):
        yield reference.misses(one, pair.asked), reference.misses(other, pair.asked), pair


def within(one, other, allowed, ratio, excess, length):
    return all(
        missed * ratio[1] * excess[1] <= ratio[0] * far * excess[1] + excess[0] * ratio[1]
        for missed, far, pair in counted(one, other, allowed, length))


def reached(one, other, allowed, ratio, excess, length):
    found = reference.situations(one, other, allowed)
    rows = [[((0 if hit else 1, 0 if far else 1), behind) for (hit, far), behind in row] for row in found.values()]
    places = {situation: index for index, situation in enumerate(found)}
    ways = [(index, places[behind], missed, far) for index, row in enumerate(rows) for (missed, far), behind in row]
    # The greatest counts of as many steps as there are situations, and one more: they rise if a circle lets them.
    exact = [0] * len(places)
    for _ in range(2 * len(places) + 2):
        last = list(exact)
        for source, behind, missed, far in ways:
            exact[source] = max(exact[source], exact[behind] + missed * ratio[1] - far * ratio[0])
        if last == exact:
            break
    enough = exact[0] * excess[1] >= excess[0] * ratio[1]
    return enough and (ratio[0] == 0 or rises_below(ways, len(places), ratio))


def rises_below(ways, many, ratio):
    """Return whether the counts rise for ever for a ratio that is a little less."""
    # Circles have at most as many steps as there are situations, so no ratio of one is between the two.
    top, bottom = ratio[0] * 4 * many * many - 1, ratio[1] * 4 * many * many
    counts = [0] * many
    for _ in range(many + 1):
        last = list(counts)
        for source, behind, missed, far in ways:
            counts[source] = max(counts[source], last[behind] + missed * bottom - far * top)
    return last != counts


def endless(one, other, allowed, length):
    return not all(missed <= far + 1 for missed, far, pair in counted(one, other, allowed, max(length, 5)))


def alike(one, other, allowed, length):
    return all(
        reference.answers(one, pair.asked) == reference.answers(other, pair.asked)
        for missed, far, pair in counted(one, other, allowed, length))


def inside(one, other, allowed, length):
    return not any(
        pair.one.holds(name) and not pair.other.holds(name)
        for missed, far, pair in counted(one, other, allowed, length) for name in pair.names())


def old_after(policy, many):
    """Return whether some line can be old after so many different requests."""
    lines, rows = policy
    places = {(0, ("empty",) * lines)}
    while True:
        more = set(places)
        for state, marks in places:
            victim, after, hits = rows[state]
            more.add((after, marks[:victim] + ("old",) + marks[victim + 1:]))
            more |= {(hits[line], marks) for line in range(lines) if marks[line] == "old"}
        if more == places:
            break
        places = more
    for _ in range(many):
        later = set()
        for state, marks in places:
            victim, after, hits = rows[state]
            later.add((after, marks[:victim] + ("new",) + marks[victim + 1:]))
            later |= {
                (hits[line], marks[:line] + ("new",) + marks[line + 1:]) for line in range(lines) if marks[line] == "old"}
        places = later
        # Nothing gets old any more.
        if not any("old" in marks for state, marks in places):
            return False
    return any("old" in marks for state, marks in places)


def forgets(policy, many, length):
    return many >= 1 and not old_after(policy, min(many, 400))


def remembers(policy, many, length):
    return many <= 400 and old_after(policy, many)


def never_forgets(policy, length):
    return old_after(policy, 400)


def paths(program, length):
    row = [(0,)]
    for _ in range(length):
        yield from row
        row = [path + (target,) for path in row for target in program[path[-1]][1]]


def path_answers(device, program, length):
    for path in paths(program, length):
        yield path, reference.answers(device, [program[place][0] for place in path])


def always(device, program, place, answer, length):
    if place >= len(program):
        return False
    return all(told[-1] == answer for path, told in path_answers(device, program, 7) if path[-1] == place)


def sometimes(device, program, place, answer, length):
    return any(told[-1] == answer for path, told in path_answers(device, program, 7) if path[-1] == place)


def at_most(device, program, many, length):
    return all(told.count(False) <= many for path, told in path_answers(device, program, 7))


def so_many(device, program, many, length):
    return any(told.count(False) == many for path, told in path_answers(device, program, 7))


def no_most(device, program, length):
    return any(told.count(False) >= 4 for path, told in path_answers(device, program, 9))


def least(names, lines, many, length):
    return keepings.fewest(names, lines) == many


def answers(device, names, told, length):
    return reference.answers(device, names) == told


JUDGES = {
    "within": within, "reached": reached, "endless": endless, "alike": alike,
    "differ": lambda *told: not alike(*told), "inside": inside, "outside": lambda *told: not inside(*told),
    "forgets": forgets, "remembers": remembers, "never forgets": never_forgets, "always": always, "sometimes": sometimes,
    "at most": at_most, "so many": so_many, "no most": no_most, "least": least, "answers": answers,
}
