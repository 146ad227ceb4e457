"""How calls come round in a part that never gets quiet."""

from hoarseheath.courses import course_of
from hoarseheath.plans import check_caller


def round_of(plan, picture, caller):
    """The triple (first beat of rounds, beats of a round, calls of each caller in it); None where it gets quiet."""
    check_caller(plan, caller)
    course = course_of(plan, picture, caller)
    often = course.in_a_round(caller)
    if often == 0:
        return None
    return course.first, course.many, often
