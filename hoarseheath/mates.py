"""Mates: which calls belong together by a way."""

from itertools import zip_longest

from hoarseheath.beats import run
from hoarseheath.pictures import lasts_by_caller, who_owes
from hoarseheath.plans import find_way


def mates(plan, picture, way, beats):
    """The list of pairs (beat of one's call, beat of other's) of all mates among the calls of so many beats."""
    found = find_way(plan, way)
    _, one, other, _ = found
    _, calls = run(plan, picture, beats)
    ones = [beat for beat, caller in calls if caller == one]
    others = [beat for beat, caller in calls if caller == other]
    if not ones and not others:
        # A call that is answered later is none of these beats.
        return []
    owing = who_owes(plan, picture, found)
    lasts = lasts_by_caller(plan, picture)
    if owing == other:
        ones = [lasts[one], *ones]
    elif owing == one:
        others = [lasts[other], *others]
    return list(zip_longest(ones, others))
