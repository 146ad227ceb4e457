"""Courses: all calls to come of a part, however far on."""

from hoarseheath.pictures import lasts_by_caller
from hoarseheath.plans import ends_at, part_of


class Course:
    """The calls to come of a part's callers.

    Their beats are kept up to the end of the first round: from the beat first on all comes again many beats
    later. A part that gets quiet comes round with no call in a round.
    """

    def __init__(self, calls, first, many):
        self.calls = calls
        self.first = first
        self.many = many

    def ahead_of(self, caller, beat):
        """How many of a caller's calls to come lie ahead of a beat."""
        if self.many is None or beat <= self.first:
            return self._kept_ahead_of(caller, beat)
        rounds, within = divmod(beat - self.first, self.many)
        return self._kept_ahead_of(caller, self.first + within) + rounds * self.in_a_round(caller)

    def _kept_ahead_of(self, caller, beat):
        """How many of a caller's calls that are kept lie ahead of a beat."""
        return len([call for call in self.calls[caller] if call < beat])

    def in_a_round(self, caller):
        """How many calls a caller has in a round."""
        return len(self.calls[caller]) - self._kept_ahead_of(caller, self.first)

    def beat_of(self, caller, number):
        """The beat of a caller's number-th call to come; None where there are fewer."""
        kept = self.calls[caller]
        if number < 1:
            return None
        if number <= len(kept):
            return kept[number - 1]
        often = self.in_a_round(caller)
        if often == 0:
            return None
        rounds, within = divmod(number - 1 - (len(kept) - often), often)
        return kept[len(kept) - often + within] + rounds * self.many

    def till(self, beat):
        """The list of the calls of all callers up to a beat, that one too: pairs (beat, caller)."""
        return [
            (self.beat_of(caller, number), caller)
            for caller in self.calls
            for number in range(1, self.ahead_of(caller, beat + 1) + 1)
        ]


def course_of(plan, picture, caller, till=None):
    """The Course of a caller's part; where a beat till is told nothing is known of what comes behind that one."""
    callers = part_of(plan, caller)
    rows, back = _rows_of(plan, picture, callers, till)
    if back is None:
        return Course(_calls_in(picture[0], callers, rows), None, None)
    many = len(rows) - 1 - back
    first = max(back, 1)
    # Calls may come round ahead of the ages: what was long ago is gone with the next call.
    while first > 1 and _is_again(rows[first - 1], rows[first - 1 + many]):
        first -= 1
    return Course(_calls_in(picture[0], callers, rows[:first + many]), picture[0] + first, many)


def _calls_in(beat, callers, rows):
    """For each caller the list of beats of its calls behind a beat, by the ages from that one on."""
    return {
        caller: [beat + later for later, ages in enumerate(rows) if later > 0 and ages[at] == 0]
        for at, caller in enumerate(callers)
    }


def _is_again(ages, later):
    """Whether just the same callers call in the beats of both ages."""
    return [age == 0 for age in ages] == [age == 0 for age in later]


def _rows_of(plan, picture, callers, till):
    """The pair (list of ages beat by beat, place in it of what its last ones are again).

    The list ends at the beat till, its place then None, where ages don't come again by then.
    """
    ends = [[(callers.index(there), beats) for _, there, beats in ends_at(plan, caller)] for caller in callers]
    ages = _ages(plan, picture, callers)
    rows = [ages]
    places = {}
    while ages not in places and (till is None or picture[0] + len(rows) <= till):
        places[ages] = len(rows) - 1
        ages = _next_ages(plan[0], ends, ages)
        rows.append(ages)
    return rows, places.get(ages)


def _ages(plan, picture, callers):
    """How many beats ago each one called, at most rest, which is that of one that hasn't called, too.

    All that comes hangs on these alone: who called so long ago is free, and heard everywhere.
    """
    beat, _ = picture
    lasts = lasts_by_caller(plan, picture)
    return tuple([
        plan[0] if lasts[caller] is None else min(plan[0], beat - lasts[caller])
        for caller in callers
    ])


def _next_ages(rest, ends, ages):
    """The ages one beat later, ends for each caller the pairs (place of the other one, beats) of its ways."""
    grown = [age + 1 if age < rest else rest for age in ages]
    return tuple([
        0 if age == rest and any([grown[there] == beats for there, beats in rows]) else age
        for age, rows in zip(grown, ends)
    ])
