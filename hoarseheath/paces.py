"""At what pace it goes on for ever in a part that never gets quiet."""

from math import gcd

from hoarseheath.heights import is_ring_of
from hoarseheath.plans import check_caller, find_way, part_of, ways_at
from hoarseheath.rings import beats_round, lean_from, rings_of, wind
from hoarseheath.things import are_numbers_of, is_number, is_tuple_within


def pace(plan, picture, caller):
    """The fraction of the beats from call to call in the long run; None where the part gets quiet."""
    ring = binding(plan, picture, caller)
    if ring is None:
        return None
    number, often = beats_round(plan, ring), wind(plan, picture, ring)
    shared = gcd(number, often)
    return number // shared, often // shared


def binding(plan, picture, caller):
    """A RING of the part, its wind above 0, of the least beats for its wind; None where the part gets quiet."""
    check_caller(plan, caller)
    best = None
    for ring in rings_of(plan, caller):
        if wind(plan, picture, ring) > 0 and (best is None or _is_quicker(plan, picture, ring, best)):
            best = ring
    return best


def _is_quicker(plan, picture, ring, other):
    """Whether of two RINGs that wind the first has fewer beats for its wind."""
    # Products in place of quotients: there are whole numbers only.
    return beats_round(plan, ring) * wind(plan, picture, other) < beats_round(plan, other) * wind(plan, picture, ring)


def prices(plan, picture, caller):
    """The rising list of pairs (caller, price) by which no ring is quicker; None where the part gets quiet."""
    fraction = pace(plan, picture, caller)
    if fraction is None:
        return None
    least = {here: 0 for here in part_of(plan, caller)}
    # Round no ring the steps come to less than 0: as many rounds as callers are enough.
    for _ in range(len(least)):
        for here, there, worth in _steps(plan, picture, caller, fraction):
            least[there] = min(least[there], least[here] + worth)
    return sorted(least.items())


def _steps(plan, picture, caller, fraction):
    """Of each way of the part, each way about, the triple (from, to, by how much the price there may be more)."""
    number, many = fraction
    return [
        (here, there, find_way(plan, way)[3] * many - lean_from(plan, picture, here, way) * number)
        for here in part_of(plan, caller)
        for way, there in ways_at(plan, here)
    ]


def shows_pace(plan, picture, caller, thing):
    """Whether a thing is a triple (fraction, RING, prices) by which that fraction is the pace."""
    check_caller(plan, caller)
    if not is_tuple_within(thing, 3, 3):
        return False
    fraction, ring, worths = thing
    if not _is_fraction(fraction) or not _is_worth(plan, picture, caller, fraction, ring):
        return False
    return are_numbers_of(worths, part_of(plan, caller)) and _are_prices(plan, picture, caller, fraction, worths)


def _is_fraction(thing):
    """Whether a thing is a fraction in lowest terms."""
    if not is_tuple_within(thing, 2, 2) or not all([is_number(number) for number in thing]):
        return False
    number, many = thing
    return many >= 1 and gcd(number, many) == 1


def _is_worth(plan, picture, caller, fraction, thing):
    """Whether a thing is a RING of the part, its wind above 0, that's worth the fraction."""
    if not is_ring_of(plan, caller, thing):
        return False
    number, many = fraction
    often = wind(plan, picture, thing)
    return often > 0 and beats_round(plan, thing) * many == often * number


def _are_prices(plan, picture, caller, fraction, worths):
    """Whether the price at the end of each way is no more than that fraction lets it be, each way about."""
    price = dict(worths)
    return all([price[there] <= price[here] + worth for here, there, worth in _steps(plan, picture, caller, fraction)])
