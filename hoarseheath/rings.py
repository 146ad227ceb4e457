"""Rings of ways, and how what is owed winds round them."""

from hoarseheath.pictures import who_owes
from hoarseheath.plans import find_way, part_of, ways_at
from hoarseheath.things import are_pairs


def is_ring(plan, thing):
    """Whether a thing is a RING of a plan."""
    if not are_pairs(thing) or len(thing) < 2:
        return False
    callers = [caller for caller, _ in thing]
    if not all([caller in plan[1] for caller in callers]):
        return False
    leads_on = [
        (way, there) in ways_at(plan, caller)
        for (caller, way), there in zip(thing, callers[1:] + callers[:1])
    ]
    # Only what leads on is surely made of names, which sets can hold.
    return all(leads_on) and len(set(callers)) == len(thing) and len({way for _, way in thing}) == len(thing)


def beats_round(plan, ring):
    """All beats of a ring's ways."""
    return sum([find_way(plan, way)[3] for _, way in ring])


def lean(plan, picture, way):
    """1 where the WAY's other owes its one by it, -1 where one owes other, 0 where nobody owes."""
    found = find_way(plan, way)
    owing = who_owes(plan, picture, found)
    if owing is None:
        return 0
    return 1 if owing == found[2] else -1


def lean_from(plan, picture, caller, way):
    """A way's lean as it's gone through from one of its callers."""
    straight = lean(plan, picture, way)
    return straight if caller == find_way(plan, way)[1] else -straight


def wind(plan, picture, ring):
    """The leans of all of a ring's ways together."""
    return sum([lean_from(plan, picture, caller, way) for caller, way in ring])


def rings_of(plan, caller):
    """All RINGs of a caller's part, each way about, each begun at its least caller."""
    found = []
    for first in part_of(plan, caller):
        found.extend(_rings_from(plan, first))
    return found


def _rings_from(plan, first):
    """All RINGs whose least caller is first, begun at it."""
    found = []
    walks = [([], first)]
    while walks:
        gone, here = walks.pop()
        for way, there in ways_at(plan, here):
            if way in [used for _, used in gone]:
                continue
            more = [*gone, (here, way)]
            if there == first:
                found.append(more)
            elif there > first and there not in [passed for passed, _ in more]:
                walks.append((more, there))
    return found
