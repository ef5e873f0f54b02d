"""Evidence for claims, which is accepted or rejected without searching."""

from missbounds.checkerforms import fits_claim
from missbounds.checkerkeeping import shows_least
from missbounds.checkermemory import accepts_memory
from missbounds.checkerpairs import accepts_pair
from missbounds.checkerpaths import accepts_path

# What stands in a claim behind each word.
FORMS = {
    "within": ("device", "device", "allowed", "fraction", "fraction"),
    "reached": ("device", "device", "allowed", "fraction", "fraction"),
    "endless": ("device", "device", "allowed"),
    "alike": ("device", "device", "allowed"),
    "differ": ("device", "device", "allowed"),
    "inside": ("device", "device", "allowed"),
    "outside": ("device", "device", "allowed"),
    "forgets": ("policy", "number"),
    "remembers": ("policy", "number"),
    "never forgets": ("policy",),
    "always": ("device", "program", "number", "truth"),
    "sometimes": ("device", "program", "number", "truth"),
    "at most": ("device", "program", "number"),
    "so many": ("device", "program", "number"),
    "no most": ("device", "program"),
    "least": ("kept names", "lines", "number"),
    "answers": ("device", "names", "truths"),
}


def accepts(claim, evidence):
    """Return whether any value is a claim, and another one evidence that shows it."""
    if not isinstance(claim, tuple) or len(claim) == 0 or not isinstance(claim[0], str):
        return False
    word, *told = claim
    if word not in FORMS or not fits_claim(told, FORMS[word]):
        return False
    if word == "least":
        return shows_least(*told, evidence)
    # Each of these rejects claims with the words of the other ones.
    if accepts_pair(word, told, evidence) or accepts_memory(word, told, evidence):
        return True
    return accepts_path(word, told, evidence)
