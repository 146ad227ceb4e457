"""What is to come, if no hand does anything."""

from hoarseheath.beats import run
from hoarseheath.errors import Endless
from hoarseheath.heights import heights
from hoarseheath.pictures import on_ways
from hoarseheath.plans import part_of


def to_come(plan, picture, caller):
    """How many calls of a caller are to come; None where they never end."""
    told = heights(plan, picture, caller)
    return None if told is None else dict(told)[caller]


def coming(plan, picture, caller):
    """The rising pairs (beat, caller) of all calls to come of a caller's part; None where they never end."""
    if heights(plan, picture, caller) is None:
        return None
    _, calls = _run_till_still(plan, picture, part_of(plan, caller))
    return calls


def _run_till_still(plan, picture, callers):
    """The pair (first picture in which none of these callers will hear a call, their calls till then).

    They are all callers of parts that get quiet: else it doesn't end.
    """
    now = picture
    calls = []
    while [there for _, there, _ in on_ways(plan, now) if there in callers]:
        now, more = run(plan, now, 1)
        calls.extend([(beat, caller) for beat, caller in more if caller in callers])
    return now, calls


def _still_picture(plan, picture):
    """The first picture in which no call is on its way; refuse where there is none."""
    for caller in plan[1]:
        if heights(plan, picture, caller) is None:
            raise Endless(caller)
    now, _ = _run_till_still(plan, picture, plan[1])
    return now


def last_call(plan, picture):
    """The beat of the last call of all, to come or, where none is, of those that were; None where there's none."""
    _, lasts = _still_picture(plan, picture)
    return max([last for last in lasts if last is not None], default=None)


def still_from(plan, picture):
    """The first beat, the picture's or a later one, from which on no call is on its way."""
    return _still_picture(plan, picture)[0]
