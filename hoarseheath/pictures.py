"""Pictures: how a heath stands behind all calls of a beat."""

from hoarseheath.things import is_number, is_number_within, is_tuple_within


def is_picture(plan, thing):
    """Whether a thing is a PICTURE of a plan, of any beat, in which all ways are in step."""
    if not is_tuple_within(thing, 2, 2):
        return False
    beat, lasts = thing
    if not is_number(beat) or beat < 0 or not _are_lasts(plan, beat, lasts):
        return False
    return all([_is_in_step(plan, thing, way) for way in plan[2]])


def _are_lasts(plan, beat, thing):
    """Whether a thing is what a PICTURE of a plan may have as its lasts at a beat."""
    many = len(plan[1])
    if not is_tuple_within(thing, many, many):
        return False
    return all([last is None or is_number_within(last, 0, beat) for last in thing])


def _is_in_step(plan, picture, way):
    """Whether a WAY is in step."""
    _, one, other, beats = way
    lasts = lasts_by_caller(plan, picture)
    free = dict(zip(plan[1], free_beats(plan, picture)))
    owing = who_owes(plan, picture, way)
    if owing is None:
        return abs(free[one] - free[other]) <= beats
    heard = lasts[other if owing == one else one] + beats
    return free[owing] <= heard


def is_apart(plan, picture, way):
    """Whether by a WAY, be it laid or not, somebody would owe, or its two would be free too far from one another."""
    return who_owes(plan, picture, way) is not None or not _is_in_step(plan, picture, way)


def begun(plan):
    """The picture of beat 0 in which none has called."""
    return 0, (None,) * len(plan[1])


def with_call(plan, picture, caller):
    """The picture in which a caller has called in the picture's own beat."""
    lasts = lasts_by_caller(plan, picture)
    return picture_by(plan, picture[0], {**lasts, caller: picture[0]})


def lasts_by_caller(plan, picture):
    """For each caller the beat of its last call, or None."""
    return dict(zip(plan[1], picture[1]))


def picture_by(plan, beat, lasts):
    """The picture at a beat by what lasts tells of callers: who isn't in it hasn't called."""
    return beat, tuple([lasts.get(caller) for caller in plan[1]])


def free_beats(plan, picture):
    """The list of free beats, callers as in the plan."""
    beat, lasts = picture
    return [beat if last is None else max(beat, last + plan[0]) for last in lasts]


def is_free(plan, picture, caller):
    """Whether a caller may call in the picture's own beat."""
    return dict(zip(plan[1], free_beats(plan, picture)))[caller] == picture[0]


def _is_on_its_way(picture, last, beats):
    """Whether a last call, if there is one, is on its way by a way of so many beats."""
    return last is not None and last + beats > picture[0]


def on_ways(plan, picture):
    """The rising list of triples (beat at which it will be heard, caller that will hear, way)."""
    lasts = lasts_by_caller(plan, picture)
    rows = []
    for name, one, other, beats in plan[2]:
        for here, there in ((one, other), (other, one)):
            if _is_on_its_way(picture, lasts[here], beats):
                rows.append((lasts[here] + beats, there, name))
    return sorted(rows)


def who_owes(plan, picture, way):
    """The caller that owes the other one an answer by a WAY; None where nobody does."""
    _, one, other, beats = way
    lasts = lasts_by_caller(plan, picture)
    for here, there in ((one, other), (other, one)):
        if _is_on_its_way(picture, lasts[there], beats):
            # A call of its own so near to that one is its mate already.
            if lasts[here] is None or lasts[here] < lasts[there] - beats:
                return here
    return None


def owed(plan, picture):
    """The rising list of pairs (way, caller that owes)."""
    rows = [(way[0], who_owes(plan, picture, way)) for way in plan[2]]
    return [(name, caller) for name, caller in rows if caller is not None]
