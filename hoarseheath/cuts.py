"""Ways cut and laid again: what lets a part get quiet, and what kindles it."""

from itertools import combinations

from hoarseheath.beats import next_picture
from hoarseheath.errors import NoWay
from hoarseheath.heights import heights
from hoarseheath.pictures import begun, is_apart, on_ways, with_call
from hoarseheath.plans import check_caller, find_way, part_of


def cut_out(plan, ways):
    """The plan without these ways."""
    rest, callers, all_ways = plan
    names = [way[0] for way in all_ways]
    missing = [name for name in ways if name not in names]
    if missing:
        raise NoWay(min(missing))
    return rest, callers, tuple([way for way in all_ways if way[0] not in ways])


def _ways_of(plan, caller):
    """The rising list of the names of all ways of a caller's part."""
    callers = part_of(plan, caller)
    # One end is enough: the other one is of the same part.
    return [name for name, one, _, _ in plan[2] if one in callers]


def _gets_quiet(plan, picture, callers, ways):
    """Whether all of these callers get quiet where these ways are cut out."""
    left = cut_out(plan, ways)
    return None not in [heights(left, picture, caller) for caller in callers]


def quenching(plan, picture, caller):
    """The rising list of ways each of which, cut out alone, lets a part get quiet; None where it does anyway."""
    if heights(plan, picture, caller) is not None:
        return None
    callers = part_of(plan, caller)
    return [way for way in _ways_of(plan, caller) if _gets_quiet(plan, picture, callers, [way])]


def fewest_cuts(plan, picture, caller):
    """The least of the shortest rising lists of ways that, cut out together, let a caller's part get quiet."""
    check_caller(plan, caller)
    callers = part_of(plan, caller)
    ways = _ways_of(plan, caller)
    for many in range(len(ways) + 1):
        # Out of a rising list combinations come in the order in which lists are compared.
        for cut in combinations(ways, many):
            if _gets_quiet(plan, picture, callers, cut):
                return list(cut)
    # Without any ways all get quiet, so it never comes to this.
    return None


def kindling(plan, way):
    """The least number of beats between a call of a way's one and its being laid that make a heath for ever."""
    found = find_way(plan, way)
    one = found[1]
    left = cut_out(plan, [way])
    now = with_call(left, begun(left), one)
    # When no call is on its way any more nobody owes, and by a way that's laid then no ring would wind.
    while on_ways(left, now):
        if not is_apart(plan, now, found) and heights(plan, now, one) is None:
            return now[0]
        now = next_picture(left, now)
    return None
