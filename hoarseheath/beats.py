"""Beats, one by one: who hears a call and may call does so at once."""

from hoarseheath.pictures import free_beats, on_ways


def next_picture(plan, picture):
    """The picture one beat later."""
    beat = picture[0] + 1
    calling = _calling(plan, picture, beat)
    return beat, tuple([beat if caller in calling else last for caller, last in zip(plan[1], picture[1])])


def _calling(plan, picture, beat):
    """The callers that call in a picture's next beat."""
    hearing = [caller for heard, caller, _ in on_ways(plan, picture) if heard == beat]
    return [
        caller
        for caller, free in zip(plan[1], free_beats(plan, picture))
        if caller in hearing and free <= beat
    ]


def run(plan, picture, beats):
    """The pair (picture so many beats later, rising list of the calls till then)."""
    now = picture
    calls = []
    for _ in range(beats):
        now = next_picture(plan, now)
        calls.extend(_calls_in(plan, now))
    return now, calls


def _calls_in(plan, picture):
    """The pairs (beat, caller) of those that call in a picture's own beat."""
    beat, lasts = picture
    return [(beat, caller) for caller, last in zip(plan[1], lasts) if last == beat]
