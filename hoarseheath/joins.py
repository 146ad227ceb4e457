"""Plans put together, and ways parted."""

from hoarseheath.errors import BadBeats, There, TooMany, Unlike
from hoarseheath.pictures import lasts_by_caller, picture_by
from hoarseheath.plans import LEAST_REST, find_way, in_order, way_between
from hoarseheath.words import BEATS, CALLERS, REST, WAYS


def together(one, other):
    """The plan of two plans side by side."""
    rest, callers, ways = one
    more_rest, more_callers, more_ways = other
    if rest != more_rest:
        raise Unlike(more_rest)
    _check_unlike(callers, more_callers)
    _check_unlike(_names(ways), _names(more_ways))
    return _put_in_order(rest, [*callers, *more_callers], [*ways, *more_ways])


def _names(ways):
    """The names of ways."""
    return [way[0] for way in ways]


def _check_unlike(names, more):
    """Refuse the least name that both have."""
    both = [name for name in names if name in more]
    if both:
        raise There(min(both))


def _put_in_order(rest, callers, ways):
    """The plan of these callers and ways, in any order; refuse more of them than the bounds let."""
    if len(callers) > CALLERS:
        raise TooMany("callers")
    if len(ways) > WAYS:
        raise TooMany("ways")
    return in_order(rest, callers, ways)


def pictures_together(one, other, picture, second):
    """The picture of two plans side by side, of a picture of each."""
    plan = together(one, other)
    beat, _ = picture
    if beat != second[0]:
        raise Unlike(second[0])
    mine = lasts_by_caller(one, picture)
    more = lasts_by_caller(other, second)
    return picture_by(plan, beat, {**mine, **more})


def parted(plan, way, caller, name, beats):
    """The plan with a new caller on a way, so many beats from its one, and a way of this name on from there."""
    rest, callers, ways = plan
    found = find_way(plan, way)
    _, one, other, long = found
    _check_unlike([caller], callers)
    _check_unlike([name], _names(ways))
    if not 1 <= beats < long:
        raise BadBeats(beats)
    halves = [way_between(way, one, caller, beats), way_between(name, caller, other, long - beats)]
    left = [kept for kept in ways if kept != found]
    return _put_in_order(rest, [*callers, caller], [*left, *halves])


def times(plan, number):
    """The plan with rest and all beats so many times as many."""
    rest, callers, ways = plan
    more = tuple([(name, one, other, beats * number) for name, one, other, beats in ways])
    # Where the rest is within its bounds the number is 1 or more, and no way gets too short.
    if not LEAST_REST <= rest * number <= REST or not all([way[3] <= BEATS for way in more]):
        raise BadBeats(number)
    return rest * number, callers, more
