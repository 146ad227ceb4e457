from hoarseheath.beats import run
from hoarseheath.errors import NoCaller
from hoarseheath.heights import heights, shows_winding, winding
from hoarseheath.paces import binding, pace, prices, shows_pace
from hoarseheath.pictures import begun, is_picture
from tests.heaths import (
    ANY, Asking, Field, all_rings, beats_of, circling, in_lowest_terms, is_plain, otherwise, right_ring, round_ring,
    scenes, shifted, small_pictures, turned, twice_otherwise,
)

# A ring round which a call goes on for ever, and beside it a part that gets quiet and one alone.
BOTH = (
    3,
    ("a", "b", "c", "d", "e", "f"),
    (("u", "a", "c", 1), ("v", "c", "e", 1), ("w", "a", "e", 1), ("x", "b", "d", 1), ("y", "b", "d", 1)),
)
GOING = (2, (0, 2, 1, None, 2, None))
RING = [("a", "u"), ("c", "v"), ("e", "w")]
SHOWN = ((3, 1), RING, [("a", 0), ("c", 1), ("e", 2)])
# From a to e two roads, the one two beats longer: a call that goes on round each of both with f.
ROADS = (
    5,
    ("a", "b", "c", "d", "e", "f"),
    (
        ("p", "a", "b", 1),
        ("q", "b", "e", 1),
        ("r", "a", "c", 2),
        ("s", "c", "d", 1),
        ("t", "d", "e", 1),
        ("u", "e", "f", 2),
        ("v", "a", "f", 2),
    ),
)
AROUND = (6, (6, 1, 2, 3, 2, 4))
SHORT = [("a", "p"), ("b", "q"), ("e", "u"), ("f", "v")]
LONG = [("a", "r"), ("c", "s"), ("d", "t"), ("e", "u"), ("f", "v")]
SEVEN = circling(3, [1] * 7, 2)
ALONE = (3, ("ash",), ())
FAR = 10 ** 12


def steps_of(field, caller):
    """Of each way of a part, each way about, (from, to, beats, lean)."""
    part = field.part(caller)
    rows = []
    for name, one, other, beats in field.ways.values():
        if one in part:
            rows.append((one, other, beats, field.lean(name)))
            rows.append((other, one, beats, -field.lean(name)))
    return rows


def prices_fit(field, caller, fraction, thing):
    """Whether prices are as the document tells, straight by its words."""
    if type(thing) is not list or any(type(pair) is not tuple or len(pair) != 2 for pair in thing):
        return False
    part = field.part(caller)
    if len(thing) != len(part) or not all(is_plain(worth) for _, worth in thing):
        return False
    if any(type(one) is not str or one != due for (one, _), due in zip(thing, part)):
        return False
    number, many = fraction
    worth = dict(thing)
    return all(worth[there] <= worth[here] + beats * many - lean * number
               for here, there, beats, lean in steps_of(field, caller))


def right_pace(plan, field, caller, thing):
    """Whether a thing shows a part's pace, straight by the document's words."""
    if type(thing) is not tuple or len(thing) != 3 or type(thing[0]) is not tuple or len(thing[0]) != 2:
        return False
    fraction, ring, worths = thing
    number, many = fraction
    if not is_plain(number) or not is_plain(many) or many < 1 or in_lowest_terms(number, many) != fraction:
        return False
    if not right_ring(plan, ring) or ring[0][0] not in field.part(caller) or field.wind(ring) < 1:
        return False
    if beats_of(plan, ring) * many != field.wind(ring) * number:
        return False
    return prices_fit(field, caller, fraction, worths)


def told_of(plan, picture, caller):
    return pace(plan, picture, caller), binding(plan, picture, caller), prices(plan, picture, caller)


def endless_scenes(many):
    """Of so many scenes those (plan, picture, field, caller) of which the caller's calls never end."""
    rows = []
    for plan, picture, field in scenes(many):
        rows.extend((plan, picture, field, caller) for caller in plan[1] if field.to_come(caller) is None)
    return rows


class Pace(Asking):
    def test_ordinary(self):
        for caller in "ace":
            self.same(pace(BOTH, GOING, caller), (3, 1))
        for caller in SEVEN[0][1]:
            self.same(pace(*SEVEN, caller), (7, 2))

    def test_by_name(self):
        self.same(pace(plan=BOTH, picture=GOING, caller="a"), (3, 1))

    def test_a_part_that_gets_quiet(self):
        for caller in "bdf":
            self.same(pace(BOTH, GOING, caller), None)
        for caller in BOTH[1]:
            self.same(pace(BOTH, begun(BOTH), caller), None)
        self.same(pace(ALONE, (0, (0,)), "ash"), None)
        plan = (13, ("a", "b", "c"), (("u", "a", "b", 6), ("v", "b", "c", 6), ("w", "a", "c", 6)))
        for caller in "abc":
            self.same(pace(plan, (0, (0, None, None)), caller), None)

    def test_single_rings(self):
        for rest, beats in (
            (3, [1, 1, 1]), (3, [1] * 8), (5, [2] * 7), (13, [6] * 8), (13, [6, 5, 4, 6, 3, 6, 6]), (6, [1] * 6),
        ):
            for waves in range(1, sum(beats) // rest + 1):
                for about in (1, -1):
                    plan, picture = circling(rest, beats, waves, about)
                    for caller in plan[1]:
                        self.same(pace(plan, picture, caller), in_lowest_terms(sum(beats), waves))

    def test_lowest_terms(self):
        self.same(pace(*circling(3, [1] * 8, 2), "a"), (4, 1))
        self.same(pace(*circling(13, [6] * 8, 3), "a"), (16, 1))
        self.same(pace(*circling(9, [4, 4, 4, 4, 4, 4, 4, 2], 3), "a"), (10, 1))
        self.same(pace(*circling(7, [3, 3, 3, 3, 3, 3, 3, 3], 2), "a"), (12, 1))
        self.same(pace(*circling(7, [3, 3, 3, 3, 3, 3, 3, 2], 3), "a"), (23, 3))
        self.same(pace(*circling(7, [3, 3, 3, 3, 3, 3, 2, 2], 2), "a"), (11, 1))

    def test_several_rings(self):
        for caller in ROADS[1]:
            self.same(pace(ROADS, AROUND, caller), (6, 1))

    def test_the_least_worth_of_all_rings(self):
        unlike = 0
        for plan, picture, field, caller in endless_scenes(300):
            part = field.part(caller)
            rings = [ring for ring in all_rings(plan) if ring[0][0] in part and field.wind(ring) > 0]
            worths = sorted({in_lowest_terms(beats_of(plan, ring), field.wind(ring)) for ring in rings},
                            key=lambda worth: worth[0] / worth[1])
            unlike += len(worths) > 1
            self.same(pace(plan, picture, caller), worths[0])
        self.assertGreater(unlike, 20)

    def test_as_calls_come_in_the_long_run(self):
        many = 0
        for plan, picture, field, caller in endless_scenes(250):
            self.same(pace(plan, picture, caller), field.pace(caller))
            many += 1
        for plan, picture, field in small_pictures()[::3]:
            due = field.pace("a") if field.to_come("a") is None else None
            self.same(pace(plan, picture, "a"), due)
        self.assertGreater(many, 100)

    def test_one_pace_of_all_callers_of_a_part(self):
        for plan, picture, field, caller in endless_scenes(150):
            for other in field.part(caller):
                self.same(pace(plan, picture, other), pace(plan, picture, caller))

    def test_just_where_heights_are_none(self):
        for plan, picture, _ in scenes(300):
            for caller in plan[1]:
                quiet = heights(plan, picture, caller) is not None
                self.assertEqual([told is None for told in told_of(plan, picture, caller)], [quiet] * 3)

    def test_it_stays_as_beats_go_by(self):
        for plan, picture, _, caller in endless_scenes(100):
            later, _ = run(plan, picture, 17)
            self.same(pace(plan, later, caller), pace(plan, picture, caller))

    def test_far_beats(self):
        self.same(pace(BOTH, shifted(GOING, FAR), "a"), (3, 1))
        self.same(pace(SEVEN[0], shifted(SEVEN[1], FAR), "g"), (7, 2))

    def test_kinds(self):
        told = pace(*SEVEN, "a")
        self.assertEqual((type(told), type(told[0]), type(told[1])), (tuple, int, int))

    def test_what_is_handed_in_stays(self):
        self.keeps(pace, BOTH, GOING, "a")


class Binding(Asking):
    def test_ordinary(self):
        for caller in "ace":
            self.assertIn(binding(BOTH, GOING, caller), [RING[first:] + RING[:first] for first in range(3)])
        for caller in ROADS[1]:
            self.assertIn(binding(ROADS, AROUND, caller), [SHORT[first:] + SHORT[:first] for first in range(4)])

    def test_by_name(self):
        self.same(binding(plan=BOTH, picture=GOING, caller="a"), binding(BOTH, GOING, "a"))

    def test_a_part_that_gets_quiet(self):
        for caller in "bdf":
            self.same(binding(BOTH, GOING, caller), None)
        self.same(binding(ALONE, (0, (0,)), "ash"), None)
        self.same(binding(ROADS, begun(ROADS), "a"), None)

    def test_single_rings(self):
        for rest, beats in ((3, [1, 1, 1]), (3, [1] * 8), (5, [2] * 7)):
            for waves in range(1, sum(beats) // rest + 1):
                for about in (1, -1):
                    plan, picture = circling(rest, beats, waves, about)
                    ring = round_ring(plan) if about == 1 else turned(round_ring(plan))
                    told = binding(plan, picture, "c")
                    self.assertIn(told, [ring[first:] + ring[:first] for first in range(len(ring))])

    def test_of_the_worth_of_the_pace(self):
        for plan, picture, field, caller in endless_scenes(300):
            ring = binding(plan, picture, caller)
            self.assertTrue(right_ring(plan, ring), ring)
            self.assertLessEqual({one for one, _ in ring}, set(field.part(caller)))
            self.assertGreater(field.wind(ring), 0)
            self.same(in_lowest_terms(beats_of(plan, ring), field.wind(ring)), pace(plan, picture, caller))
            self.assertIs(shows_winding(plan, picture, caller, ring), True)

    def test_kinds(self):
        told = binding(BOTH, GOING, "a")
        self.assertEqual((type(told), [type(pair) for pair in told]), (list, [tuple] * 3))

    def test_far_beats(self):
        self.same(binding(BOTH, shifted(GOING, FAR), "a"), binding(BOTH, GOING, "a"))

    def test_what_is_handed_in_stays(self):
        self.keeps(binding, BOTH, GOING, "a")
        self.keeps(binding, BOTH, GOING, "b")


class Prices(Asking):
    def test_ordinary(self):
        for caller in "ace":
            told = dict(prices(BOTH, GOING, caller))
            # Round the ring that binds each price is just what the one ahead lets it be.
            self.same([told["c"] - told["a"], told["e"] - told["c"]], [1, 1])

    def test_by_name(self):
        self.same(prices(plan=BOTH, picture=GOING, caller="a"), prices(BOTH, GOING, "a"))

    def test_a_part_that_gets_quiet(self):
        for caller in "bdf":
            self.same(prices(BOTH, GOING, caller), None)
        self.same(prices(ALONE, (0, (0,)), "ash"), None)
        self.same(prices(ROADS, begun(ROADS), "a"), None)

    def test_they_fit_by_each_way_either_way_about(self):
        rows = endless_scenes(300)
        rows += [(*circling(*ring), Field.of(*circling(*ring)), "a") for ring in (
            (3, [1] * 7, 2, 1), (3, [1] * 7, 2, -1), (13, [6] * 8, 3, 1), (13, [6, 1, 5, 2, 6, 6, 1], 2, -1),
        )]
        for plan, picture, field, caller in rows:
            told = prices(plan, picture, caller)
            self.assertTrue(prices_fit(field, caller, field.pace(caller), told), (plan, picture, told))
            self.assertEqual([one for one, _ in told], field.part(caller))

    def test_kinds(self):
        told = prices(*SEVEN, "a")
        self.assertEqual((type(told), [type(pair) for pair in told]), (list, [tuple] * 7))
        self.assertEqual({type(worth) for _, worth in told}, {int})

    def test_far_beats(self):
        self.same(prices(BOTH, shifted(GOING, FAR), "a"), prices(BOTH, GOING, "a"))

    def test_what_is_handed_in_stays(self):
        self.keeps(prices, BOTH, GOING, "a")
        self.keeps(prices, BOTH, GOING, "b")


class ShowsPace(Asking):
    def yes(self, plan, picture, caller, thing):
        with self.subTest(plan=plan, picture=picture, caller=caller, thing=thing):
            self.assertIs(shows_pace(plan, picture, caller, thing), True)

    def no(self, plan, picture, caller, thing):
        with self.subTest(plan=plan, picture=picture, caller=caller, thing=thing):
            self.assertIs(shows_pace(plan, picture, caller, thing), False)

    def test_what_is_told_is_shown(self):
        for plan, picture, field, caller in endless_scenes(300):
            self.yes(plan, picture, caller, told_of(plan, picture, caller))
        for plan, picture in (SEVEN, (ROADS, AROUND), circling(3, [1] * 8, 2, -1), circling(13, [6] * 8, 3)):
            for caller in plan[1]:
                self.yes(plan, picture, caller, told_of(plan, picture, caller))

    def test_ordinary(self):
        for caller in "ace":
            self.yes(BOTH, GOING, caller, SHOWN)

    def test_by_name(self):
        self.assertIs(shows_pace(plan=BOTH, picture=GOING, caller="a", thing=SHOWN), True)
        self.assertIs(shows_pace(thing=SHOWN, plan=BOTH, picture=GOING, caller="b"), False)

    def test_all_prices_by_a_number_more(self):
        for more in (1, -1, -2, -1000, 10 ** 30, -10 ** 30):
            self.yes(BOTH, GOING, "a", (*SHOWN[:2], [(one, worth + more) for one, worth in SHOWN[2]]))

    def test_the_ring_begun_elsewhere(self):
        for first in range(3):
            self.yes(BOTH, GOING, "a", (SHOWN[0], RING[first:] + RING[:first], SHOWN[2]))
            back = turned(RING)
            self.no(BOTH, GOING, "a", (SHOWN[0], back[first:] + back[:first], SHOWN[2]))

    def test_a_fraction_out_of_lowest_terms(self):
        for by in (2, 3, -1, 0):
            for worths in (SHOWN[2], [(one, worth * by) for one, worth in SHOWN[2]]):
                self.no(BOTH, GOING, "a", ((3 * by, by), RING, worths))
        told = told_of(*SEVEN, "a")
        self.yes(*SEVEN, "a", told)
        self.no(*SEVEN, "a", ((14, 4), told[1], [(one, 2 * worth) for one, worth in told[2]]))
        self.no(*SEVEN, "a", ((-7, -2), *told[1:]))

    def test_a_fraction_below_0_by_the_ring_turned_about(self):
        # All of it fits together, but for the wind of that ring, which isn't above 0.
        self.no(BOTH, GOING, "a", ((-3, 1), turned(RING), [("a", 2), ("c", 1), ("e", 0)]))

    def test_another_fraction(self):
        for number in range(-2, 12):
            for many in range(-1, 4):
                if (number, many) != (3, 1):
                    self.no(BOTH, GOING, "a", ((number, many), *SHOWN[1:]))

    def test_a_ring_of_another_worth(self):
        fraction, _, worths = told_of(ROADS, AROUND, "a")
        for first in range(4):
            self.yes(ROADS, AROUND, "a", (fraction, SHORT[first:] + SHORT[:first], worths))
        self.no(ROADS, AROUND, "a", (fraction, LONG, worths))
        self.no(ROADS, AROUND, "a", (fraction, [("a", "p"), ("b", "q"), ("e", "t"), ("d", "s"), ("c", "r")], worths))
        # The long ring's own worth is no pace: no prices fit it, as the short one is quicker.
        field = Field.of(ROADS, AROUND)
        worth = (beats_of(ROADS, LONG), field.wind(LONG))
        self.same(worth, (8, 1))
        self.no(ROADS, AROUND, "a", (worth, LONG, worths))
        self.no(ROADS, AROUND, "a", (worth, LONG, [(caller, 0) for caller in ROADS[1]]))
        self.no(ROADS, AROUND, "a", (worth, SHORT, worths))

    def test_prices_with_room(self):
        # On the long road there's room of two beats: prices there are let be unlike.
        fits = 0
        fraction, ring, worths = told_of(ROADS, AROUND, "a")
        field = Field.of(ROADS, AROUND)
        for at in range(6):
            for more in (-3, -2, -1, 1, 2, 3):
                row = [(one, worth + more * (spot == at)) for spot, (one, worth) in enumerate(worths)]
                due = right_pace(ROADS, field, "a", (fraction, ring, row))
                fits += due
                self.assertIs(shows_pace(ROADS, AROUND, "a", (fraction, ring, row)), due)
        self.assertGreater(fits, 0)

    def test_a_price_one_off_where_it_no_longer_fits(self):
        for plan, picture in ((BOTH, GOING), SEVEN, circling(13, [6] * 8, 3), circling(5, [2, 1, 2], 1, -1)):
            fraction, ring, worths = told_of(plan, picture, "a")
            for at in range(len(worths)):
                for more in (1, -1):
                    row = [(one, worth + more * (spot == at)) for spot, (one, worth) in enumerate(worths)]
                    self.no(plan, picture, "a", (fraction, ring, row))

    def test_a_caller_out_or_twice(self):
        worths = SHOWN[2]
        for at in range(3):
            self.no(BOTH, GOING, "a", (*SHOWN[:2], worths[:at] + worths[at + 1:]))
            self.no(BOTH, GOING, "a", (*SHOWN[:2], worths[:at + 1] + worths[at:]))
        for more in ([("b", 0)], [("f", 0)], [("z", 0)], [("a", 0)]):
            self.no(BOTH, GOING, "a", (*SHOWN[:2], sorted(worths + more)))
        self.no(BOTH, GOING, "a", (*SHOWN[:2], worths[::-1]))
        self.no(BOTH, GOING, "a", (*SHOWN[:2], []))
        self.no(BOTH, GOING, "a", (SHOWN[0], [], SHOWN[2]))
        self.no(BOTH, GOING, "a", (SHOWN[0], RING[:2], SHOWN[2]))
        self.no(BOTH, GOING, "a", (SHOWN[0], RING + RING, SHOWN[2]))

    def test_lists_and_tuples_where_the_other_belongs(self):
        fraction, ring, worths = SHOWN
        self.no(BOTH, GOING, "a", [fraction, ring, worths])
        self.no(BOTH, GOING, "a", (list(fraction), ring, worths))
        self.no(BOTH, GOING, "a", (fraction, tuple(ring), worths))
        self.no(BOTH, GOING, "a", (fraction, ring, tuple(worths)))
        self.no(BOTH, GOING, "a", (fraction, [list(pair) for pair in ring], worths))
        self.no(BOTH, GOING, "a", (fraction, ring, [list(pair) for pair in worths]))
        self.no(BOTH, GOING, "a", (fraction, ring, [worths[0], list(worths[1]), worths[2]]))
        self.no(BOTH, GOING, "a", (fraction, ring, [worths]))

    def test_true_and_false_for_numbers(self):
        fraction, ring, worths = SHOWN
        self.no(BOTH, GOING, "a", ((3, True), ring, worths))
        self.no(BOTH, GOING, "a", (fraction, ring, [("a", False), ("c", 1), ("e", 2)]))
        self.no(BOTH, GOING, "a", (fraction, ring, [("a", 0), ("c", True), ("e", 2)]))

    def test_one_or_two_things_otherwise(self):
        for plan, picture in ((BOTH, GOING), (ROADS, AROUND), SEVEN):
            field = Field.of(plan, picture)
            told = told_of(plan, picture, "a")
            for thing in otherwise(told) + twice_otherwise(told, 500):
                due = right_pace(plan, field, "a", thing)
                self.assertIs(shows_pace(plan, picture, "a", thing), due, thing)

    def test_behind_deeds_one_thing_otherwise(self):
        for plan, picture, field, caller in endless_scenes(120)[::12]:
            for thing in otherwise(told_of(plan, picture, caller)):
                due = right_pace(plan, field, caller, thing)
                self.assertIs(shows_pace(plan, picture, caller, thing), due, (plan, picture, thing))

    def test_all_rings(self):
        shown = 0
        for plan, picture, field, caller in endless_scenes(150)[::5]:
            fraction, _, worths = told_of(plan, picture, caller)
            for ring in all_rings(plan):
                due = right_pace(plan, field, caller, (fraction, ring, worths))
                shown += due
                self.assertIs(shows_pace(plan, picture, caller, (fraction, ring, worths)), due)
        self.assertGreater(shown, 50)

    def test_things_of_any_make(self):
        for thing in ANY:
            for caller in "ab":
                self.no(BOTH, GOING, caller, thing)
                for at in range(3):
                    self.no(BOTH, GOING, caller, (*SHOWN[:at], thing, *SHOWN[at + 1:]))
                for at in range(2):
                    if repr(thing) != "1":
                        self.no(BOTH, GOING, caller, ((*SHOWN[0][:at], thing, *SHOWN[0][at + 1:]), *SHOWN[1:]))
                self.no(BOTH, GOING, caller, (thing, thing, thing))

    def test_a_part_that_gets_quiet(self):
        told = ((3, 1), RING, [("b", 0), ("d", 1)])
        for caller in "bdf":
            self.no(BOTH, GOING, caller, SHOWN)
            self.no(BOTH, GOING, caller, told)
            self.no(BOTH, GOING, caller, None)
            self.no(BOTH, GOING, caller, (None, None, None))
        self.no(BOTH, GOING, "b", ((2, 1), [("b", "x"), ("d", "y")], [("b", 0), ("d", 0)]))
        self.no(BOTH, begun(BOTH), "a", SHOWN)
        self.no(BOTH, begun(BOTH), "a", told_of(BOTH, begun(BOTH), "a"))

    def test_of_another_part(self):
        ways = (
            ("u", "a", "b", 1), ("v", "b", "c", 1), ("w", "a", "c", 1),
            ("x", "d", "f", 1), ("y", "e", "f", 1), ("z", "d", "e", 1),
        )
        plan, picture = (3, tuple("abcdef"), ways), (2, (0, 1, 2, 0, 2, 1))
        one, other = told_of(plan, picture, "a"), told_of(plan, picture, "d")
        self.yes(plan, picture, "a", one)
        self.yes(plan, picture, "d", other)
        self.no(plan, picture, "a", other)
        self.no(plan, picture, "d", one)
        self.no(plan, picture, "a", (one[0], other[1], one[2]))
        self.no(plan, picture, "a", (one[0], one[1], other[2]))
        self.no(plan, picture, "a", (one[0], one[1], one[2] + other[2]))

    def test_what_is_handed_in_stays(self):
        for thing in (SHOWN, list(SHOWN), told_of(BOTH, GOING, "a"), ([3, 1], tuple(RING), [["a", 0]]), None):
            self.keeps(shows_pace, BOTH, GOING, "a", thing)


class Refusals(Asking):
    def test_no_caller_ahead_of_all_else(self):
        for caller in ("heron", "", "u", "A"):
            for picture in (GOING, begun(BOTH)):
                for ask in (pace, binding, prices):
                    self.refused(NoCaller, caller, ask, BOTH, picture, caller)
                for thing in (SHOWN, *ANY):
                    self.refused(NoCaller, caller, shows_pace, BOTH, picture, caller, thing)
        self.refused(NoCaller, "g", pace, caller="g", plan=BOTH, picture=GOING)
        self.assertEqual(NoCaller.__bases__, (LookupError,))

    def test_two_heaths_are_told_apart(self):
        for _ in range(2):
            self.same(pace(BOTH, GOING, "a"), (3, 1))
            self.same(pace(BOTH, begun(BOTH), "a"), None)
            self.same(pace(*circling(3, [1] * 4, 1), "a"), (4, 1))
            self.assertIs(shows_pace(BOTH, GOING, "a", SHOWN), True)
            self.assertIs(shows_pace(BOTH, begun(BOTH), "a", SHOWN), False)

    def test_the_pictures_here_are_pictures(self):
        for plan, picture in ((BOTH, GOING), (ROADS, AROUND), SEVEN):
            self.assertIs(is_picture(plan, picture), True)
        self.assertIsNotNone(winding(ROADS, AROUND, "a"))

    def test_each_is_made_in_its_own_file(self):
        for made in (pace, binding, prices, shows_pace):
            self.assertEqual(made.__module__, "hoarseheath.paces")
