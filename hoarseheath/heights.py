"""Heights, by which a part gets quiet, and rings that wind, by which it never does."""

from hoarseheath.plans import check_caller, part_of, ways_at
from hoarseheath.rings import is_ring, lean_from, rings_of, wind
from hoarseheath.things import are_numbers_of


def heights(plan, picture, caller):
    """The rising list of pairs (caller, number) of a caller's part; None where the leans let none be."""
    check_caller(plan, caller)
    numbers = _numbers_from(plan, picture, caller)
    if numbers is None:
        return None
    least = min(numbers.values())
    return [(here, numbers[here] - least) for here in sorted(numbers)]


def _numbers_from(plan, picture, caller):
    """For each caller of a caller's part its height less that one's; None where the leans let none be."""
    numbers = {caller: 0}
    ahead = [caller]
    while ahead:
        here = ahead.pop()
        for way, there in ways_at(plan, here):
            number = numbers[here] + lean_from(plan, picture, here, way)
            if there not in numbers:
                numbers[there] = number
                ahead.append(there)
            elif numbers[there] != number:
                return None
    return numbers


def winding(plan, picture, caller):
    """A RING of a caller's part whose wind is above 0; None where there is none."""
    check_caller(plan, caller)
    for ring in rings_of(plan, caller):
        if wind(plan, picture, ring) > 0:
            return ring
    return None


def shows_heights(plan, picture, caller, thing):
    """Whether a thing is the list of heights of a caller's part."""
    told = heights(plan, picture, caller)
    # == alone would let True pass for 1, and None where there are no heights.
    return are_numbers_of(thing, part_of(plan, caller)) and thing == told


def shows_winding(plan, picture, caller, thing):
    """Whether a thing is a RING of a caller's part whose wind is above 0."""
    check_caller(plan, caller)
    return is_ring_of(plan, caller, thing) and wind(plan, picture, thing) > 0


def is_ring_of(plan, caller, thing):
    """Whether a thing is a RING of a caller's part."""
    # One caller of a ring is enough: ways lead from it to all the others.
    return is_ring(plan, thing) and thing[0][0] in part_of(plan, caller)
