"""Plans: who stands on a heath, and which ways lead between them."""

from heapq import heappop, heappush

from hoarseheath.errors import NoCaller, NoWay
from hoarseheath.things import is_name, is_number_within, is_rising, is_tuple_within
from hoarseheath.words import BEATS, CALLERS, REST, WAYS

LEAST_REST = 3


def is_plan(thing):
    """Whether a thing is a PLAN within the bounds."""
    if not is_tuple_within(thing, 3, 3):
        return False
    rest, callers, ways = thing
    return is_number_within(rest, LEAST_REST, REST) and _are_callers(callers) and _are_ways(ways, rest, callers)


def _are_callers(thing):
    """Whether a thing is what a PLAN may have as its callers."""
    if not is_tuple_within(thing, 1, CALLERS):
        return False
    # What isn't all names can't be asked whether it rises.
    return all([is_name(caller) for caller in thing]) and is_rising(thing)


def _are_ways(thing, rest, callers):
    """Whether a thing is what a PLAN of this rest and these callers may have as its ways."""
    if not is_tuple_within(thing, 0, WAYS):
        return False
    return all([_is_way(way, rest, callers) for way in thing]) and is_rising([way[0] for way in thing])


def _is_way(thing, rest, callers):
    """Whether a thing is a WAY between two of the callers, of beats that fit the rest."""
    if not is_tuple_within(thing, 4, 4):
        return False
    name, one, other, beats = thing
    if not is_name(name) or one not in callers or other not in callers:
        return False
    return one < other and is_number_within(beats, 1, BEATS) and 2 * beats + 1 <= rest


def way_between(name, one, other, beats):
    """The WAY between two callers, told either way about."""
    return name, min(one, other), max(one, other), beats


def in_order(rest, callers, ways):
    """The PLAN, if it's one, of callers and WAYs that are told in any order."""
    return rest, tuple(sorted(callers)), tuple(sorted(ways))


def check_caller(plan, caller):
    """Refuse a caller that isn't there."""
    if caller not in plan[1]:
        raise NoCaller(caller)


def find_way(plan, name):
    """The WAY of a name; refuse one that isn't there."""
    for way in plan[2]:
        if way[0] == name:
            return way
    raise NoWay(name)


def ways_at(plan, caller):
    """The rising list of pairs (way's name, the other caller) of a caller's ways."""
    check_caller(plan, caller)
    return [(name, there) for name, there, _ in ends_at(plan, caller)]


def ends_at(plan, caller):
    """The triples (way's name, the other caller, beats) of a caller's ways, as the ways stand in the plan."""
    return [
        (name, other if caller == one else one, beats)
        for name, one, other, beats in plan[2]
        if caller in (one, other)
    ]


def beats_from(plan, caller):
    """For each caller of a caller's part the least beats of ways that lead there."""
    least = {}
    ahead = [(0, caller)]
    while ahead:
        beats, here = heappop(ahead)
        # The first time that one comes up is the quickest way to it.
        if here not in least:
            least[here] = beats
            for _, there, more in ends_at(plan, here):
                heappush(ahead, (beats + more, there))
    return least


def part_of(plan, caller):
    """The rising list of the callers of a caller's part."""
    return sorted(beats_from(plan, caller))


def parts(plan):
    """The rising list of all parts."""
    rows = [part_of(plan, caller) for caller in plan[1]]
    # Each part comes up once for each of its callers, and stays at its least one.
    return [row for row, caller in zip(rows, plan[1]) if row[0] == caller]


def beats_apart(plan, one, other):
    """The least beats of ways that lead from one caller to the other; None where none do."""
    check_caller(plan, one)
    check_caller(plan, other)
    return beats_from(plan, one).get(other)
