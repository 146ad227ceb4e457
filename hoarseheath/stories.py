"""How a call came to be, link by link, from a call that was."""

from hoarseheath.courses import course_of
from hoarseheath.pictures import lasts_by_caller
from hoarseheath.plans import check_caller, ends_at
from hoarseheath.things import is_number, is_tuple_within


def story(plan, picture, caller, number):
    """The list of LINKs from a caller's number-th call to come to a call that was; None where there are fewer."""
    check_caller(plan, caller)
    course = course_of(plan, picture, caller)
    beat = course.beat_of(caller, number)
    if beat is None:
        return None
    called = {pair: True for pair in [*course.till(beat), *_calls_that_were(plan, picture)]}
    links = []
    here = caller
    while beat > picture[0]:
        way, there, beats = _heard_by(plan, called, beat, here)
        links.append((beat, here, way))
        beat, here = beat - beats, there
    return [*links, (beat, here, "")]


def _calls_that_were(plan, picture):
    """The pairs (beat, caller) of the last calls in a picture."""
    return [(last, caller) for last, caller in zip(picture[1], plan[1]) if last is not None]


def _heard_by(plan, called, beat, caller):
    """The triple (way's name, the other caller, beats) of a way by which one of these calls is heard in a beat."""
    heard = [(way, there, beats) for way, there, beats in ends_at(plan, caller) if (beat - beats, there) in called]
    return heard[0]


def shows_story(plan, picture, caller, number, thing):
    """Whether a thing is a list of LINKs from a caller's number-th call to come to a call that was."""
    check_caller(plan, caller)
    course = course_of(plan, picture, caller)
    beat = course.beat_of(caller, number)
    if beat is None or not _are_links(plan, thing) or thing[0][:2] != (beat, caller):
        return False
    *behind, (was, first, way) = thing
    # Who called first may be of another part, which the course doesn't know of.
    if way != "" or lasts_by_caller(plan, picture)[first] != was:
        return False
    coming = {pair: True for pair in course.till(beat)}
    if not all([link[:2] in coming for link in behind]):
        return False
    return all([_leads_back(plan, link, ahead) for link, ahead in zip(thing, thing[1:])])


def _are_links(plan, thing):
    """Whether a thing is a list, not empty, of triples (number, caller of the plan, any thing)."""
    if not isinstance(thing, list) or len(thing) == 0:
        return False
    return all([is_tuple_within(link, 3, 3) and is_number(link[0]) and link[1] in plan[1] for link in thing])


def _leads_back(plan, link, ahead):
    """Whether the call of a link was heard by its way just as the call of the link ahead came there."""
    beat, caller, way = link
    earlier, there, _ = ahead
    return (way, there, beat - earlier) in ends_at(plan, caller)
