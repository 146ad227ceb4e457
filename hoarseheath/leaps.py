"""Far beats, without all those ahead of them."""

from hoarseheath.courses import course_of
from hoarseheath.errors import Gone
from hoarseheath.pictures import lasts_by_caller, picture_by
from hoarseheath.plans import check_caller, parts


def picture_at(plan, picture, beat):
    """The picture at a beat, the picture's own or a later one."""
    later, _ = leap(plan, picture, beat)
    return later


def leap(plan, picture, beat):
    """The pair (picture at a beat, for each caller how many calls it makes till then)."""
    if beat < picture[0]:
        raise Gone(beat)
    lasts = lasts_by_caller(plan, picture)
    calls = {}
    for row in parts(plan):
        course = course_of(plan, picture, row[0], beat)
        for caller in row:
            calls[caller] = course.ahead_of(caller, beat + 1)
            if calls[caller] > 0:
                lasts[caller] = course.beat_of(caller, calls[caller])
    return picture_by(plan, beat, lasts), calls


def calls_in(plan, picture, caller, first, behind):
    """How many calls to come of a caller lie in the beats from first up to ahead of behind."""
    check_caller(plan, caller)
    course = course_of(plan, picture, caller, behind)
    # With first above behind there is no such beat.
    return course.ahead_of(caller, behind) - course.ahead_of(caller, min(first, behind))


def call_at(plan, picture, caller, number):
    """The beat of a caller's number-th call to come; None where there are fewer."""
    check_caller(plan, caller)
    return course_of(plan, picture, caller).beat_of(caller, number)
