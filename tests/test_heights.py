import copy
import itertools

from hoarseheath.errors import NoCaller
from hoarseheath.heights import heights, shows_heights, shows_winding, winding
from hoarseheath.pictures import begun
from tests.heaths import (
    ANY, Asking, Dice, Field, all_rings, circling, deeds, otherwise, right_ring, round_ring, scenes, shifted,
    small_pictures, turned, twice_otherwise,
)

HEATH = (
    13,
    ("ash", "birch", "elm", "fir", "gorse", "oak"),
    (
        ("brook", "ash", "oak", 6),
        ("ditch", "birch", "fir", 4),
        ("lane", "ash", "elm", 2),
        ("path", "elm", "oak", 3),
        ("track", "birch", "fir", 1),
    ),
)
ASH = (0, (0, None, None, None, None, None))
# A ring round which a call goes on for ever, and beside it a part that gets quiet and one alone.
BOTH = (
    3,
    ("a", "b", "c", "d", "e", "f"),
    (("u", "a", "c", 1), ("v", "c", "e", 1), ("w", "a", "e", 1), ("x", "b", "d", 1), ("y", "b", "d", 1)),
)
GOING = (2, (0, 2, 1, None, 2, None))
RING = [("a", "u"), ("c", "v"), ("e", "w")]
LINE = (5, ("a", "b", "c", "d", "e"), tuple((name, one, other, 2) for name, one, other in zip("uvwx", "abcd", "bcde")))
ALONE = (3, ("ash",), ())
FAR = 10 ** 12


def numbers_to_come(field, caller):
    """The heights of a caller's part, counted call by call; None where they never end."""
    calls = field.to_come(caller)
    if calls is None:
        return None
    return [(one, len([pair for pair in calls if pair[1] == one])) for one in field.part(caller)]


def from_nought(numbers, part):
    """Of some numbers those of a part, the least made 0."""
    least = min(numbers[caller] for caller in part)
    return [(caller, numbers[caller] - least) for caller in part]


class Heights(Asking):
    def test_ordinary(self):
        for caller in ("ash", "elm", "oak"):
            self.same(heights(HEATH, ASH, caller), [("ash", 0), ("elm", 1), ("oak", 1)])
        for caller in ("birch", "fir"):
            self.same(heights(HEATH, ASH, caller), [("birch", 0), ("fir", 0)])
        self.same(heights(HEATH, (2, (0, 1, 2, None, None, None)), "oak"), [("ash", 0), ("elm", 0), ("oak", 1)])
        self.same(heights(HEATH, (2, (0, 1, 2, 2, None, None)), "birch"), [("birch", 0), ("fir", 0)])
        self.same(heights(HEATH, (2, (0, 2, 2, None, None, None)), "birch"), [("birch", 0), ("fir", 1)])
        self.same(heights(HEATH, (2, (0, None, 2, 2, None, None)), "birch"), [("birch", 1), ("fir", 0)])

    def test_by_name(self):
        self.same(heights(plan=HEATH, picture=ASH, caller="elm"), [("ash", 0), ("elm", 1), ("oak", 1)])

    def test_a_caller_alone(self):
        self.same(heights(HEATH, ASH, "gorse"), [("gorse", 0)])
        for picture in ((0, (None,)), (0, (0,)), (9, (8,))):
            self.same(heights(ALONE, picture, "ash"), [("ash", 0)])

    def test_nothing_is_to_come(self):
        self.same(heights(LINE, begun(LINE), "c"), [(caller, 0) for caller in "abcde"])
        self.same(heights(LINE, (30, (0, 2, 4, 6, 8)), "c"), [(caller, 0) for caller in "abcde"])

    def test_several_waves(self):
        due = [("a", 0), ("b", 1), ("c", 1), ("d", 2), ("e", 2)]
        self.same(heights(LINE, (5, (5, 2, 4, None, None)), "a"), due)
        due = [("a", 2), ("b", 2), ("c", 1), ("d", 1), ("e", 0)]
        self.same(heights(LINE, (5, (None, None, 4, 2, 5)), "d"), due)
        due = [("a", 0), ("b", 1), ("c", 1), ("d", 1), ("e", 0)]
        self.same(heights(LINE, (0, (0, None, None, None, 0)), "d"), due)

    def test_parts_that_get_quiet_and_parts_that_never_do(self):
        for caller in "ace":
            self.same(heights(BOTH, GOING, caller), None)
        for caller in "bd":
            self.same(heights(BOTH, GOING, caller), [("b", 0), ("d", 1)])
        self.same(heights(BOTH, GOING, "f"), [("f", 0)])

    def test_calls_that_go_both_ways_round_a_ring(self):
        plan, _ = circling(9, [3, 3, 3, 3, 3], 1)
        due = [("a", 0), ("b", 1), ("c", 1), ("d", 1), ("e", 1)]
        self.same(heights(plan, (0, (0, None, None, None, None)), "a"), due)
        self.same(heights(plan, (3, (0, 3, None, None, 3)), "a"), [("a", 0), ("b", 0), ("c", 1), ("d", 1), ("e", 0)])

    def test_behind_deeds(self):
        told = {True: 0, False: 0}
        for plan, picture, field in (*scenes(400), *small_pictures()[::2]):
            for caller in plan[1]:
                due = numbers_to_come(field, caller)
                told[due is None] += 1
                self.same(heights(plan, picture, caller), due)
        self.assertGreater(min(told.values()), 200)

    def test_the_least_is_0_and_each_lean_fits(self):
        for plan, picture, field in scenes(200):
            for caller in plan[1]:
                told = heights(plan, picture, caller)
                if told is not None:
                    numbers = dict(told)
                    self.assertEqual((min(numbers.values()), list(numbers)), (0, field.part(caller)))
                    for name, one, other, _ in plan[2]:
                        if one in numbers:
                            self.assertEqual(numbers[other] - numbers[one], field.lean(name))

    def test_over_beats_and_hands_calls(self):
        hands = 0
        for plan, picture, _ in scenes(120):
            field = Field.of(plan, picture)
            parts = [field.part(caller) for caller in plan[1]]
            for beat in range(12):
                ahead = [heights(plan, field.picture(), part[0]) for part in parts]
                called = [caller for _, caller in field.go()]
                caller = plan[1][beat % len(plan[1])]
                if beat % 3 == 0 and field.may_call(caller):
                    field.call(caller)
                    called.append(caller)
                    hands += 1
                for part, told in zip(parts, ahead):
                    due = None
                    if told is not None:
                        due = from_nought({one: number - called.count(one) for one, number in told}, part)
                    self.same(heights(plan, field.picture(), part[0]), due)
        self.assertGreater(hands, 100)

    def test_over_a_way_cut(self):
        for plan, picture, field in scenes(120):
            for way in plan[2]:
                left = copy.deepcopy(field)
                left.cut(way[0])
                told = heights(plan, picture, way[1])
                for caller in plan[1]:
                    due = numbers_to_come(left, caller)
                    if told is not None and caller in dict(told):
                        self.same(due, from_nought(dict(told), left.part(caller)))
                    self.same(heights(left.plan(), picture, caller), due)

    def test_over_a_way_laid(self):
        kinds = {"joined": 0, "closed": 0, "wound": 0}
        for plan, picture, field in scenes(300):
            pairs = itertools.combinations(plan[1], 2)
            ways = [("xx", one, other, 1 + at * 5 % 6) for at, (one, other) in enumerate(pairs)]
            for way in ways:
                if field.may_lay(way):
                    kind = self.laid(plan, picture, field, way)
                    kinds[kind] = kinds.get(kind, 0) + 1
        self.assertGreater(min(kinds.values()), 3, kinds)

    def test_a_way_laid_that_closes_a_ring_round_which_a_call_goes_on(self):
        picture = (5, (0, 2, 4, None))
        ways = (("u", "a", "b", 2), ("v", "b", "c", 2), ("w", "c", "d", 2))
        self.same(heights((5, tuple("abcd"), ways), picture, "a"), [("a", 0), ("b", 0), ("c", 0), ("d", 1)])
        plan = (5, tuple("abcd"), (*ways, ("x", "a", "d", 2)))
        for caller in "abcd":
            self.same(heights(plan, picture, caller), None)
            ring = [("a", "u"), ("b", "v"), ("c", "w"), ("d", "x")]
            self.assertIn(winding(plan, picture, caller), [ring[first:] + ring[:first] for first in range(4)])

    def laid(self, plan, picture, field, way):
        _, one, other, _ = way
        more = copy.deepcopy(field)
        more.add_way(way)
        ones, others = heights(plan, picture, one), heights(plan, picture, other)
        if ones is None or others is None:
            kind, due = "endless", None
        elif other in dict(ones):
            level = dict(ones)[one] == dict(ones)[other]
            kind, due = ("closed", ones) if level else ("wound", None)
        else:
            # Nobody owes by it: both its ends are of one height.
            numbers = {caller: number - dict(ones)[one] for caller, number in ones}
            numbers.update({caller: number - dict(others)[other] for caller, number in others})
            kind, due = "joined", from_nought(numbers, more.part(one))
        for caller in (one, other):
            self.same(heights(more.plan(), picture, caller), due)
        return kind

    def test_far_beats(self):
        due = [("a", 0), ("b", 1), ("c", 1), ("d", 2), ("e", 2)]
        self.same(heights(LINE, shifted((5, (5, 2, 4, None, None)), FAR), "a"), due)
        self.same(heights(BOTH, shifted(GOING, FAR), "c"), None)

    def test_no_caller(self):
        for caller in ("heron", "", "as", "lane", "ASH"):
            self.refused(NoCaller, caller, heights, HEATH, ASH, caller)
        self.refused(NoCaller, "g", heights, caller="g", plan=BOTH, picture=GOING)

    def test_what_is_handed_in_stays(self):
        self.keeps(heights, HEATH, ASH, "elm")
        self.keeps(heights, BOTH, GOING, "a")


class Winding(Asking):
    def winds(self, field, plan, picture, caller):
        told = winding(plan, picture, caller)
        self.assertTrue(right_ring(plan, told), told)
        self.assertLessEqual({one for one, _ in told}, set(field.part(caller)))
        self.assertGreater(field.wind(told), 0)

    def test_ordinary(self):
        for caller in "ace":
            told = winding(BOTH, GOING, caller)
            self.assertIn(told, [RING[first:] + RING[:first] for first in range(3)])
            self.assertIs(type(told), list)
            self.assertEqual({type(pair) for pair in told}, {tuple})

    def test_by_name(self):
        self.winds(Field.of(BOTH, GOING), BOTH, GOING, "a")
        self.same(winding(caller="e", picture=GOING, plan=BOTH), winding(BOTH, GOING, "e"))

    def test_parts_that_get_quiet(self):
        for caller in "bdf":
            self.same(winding(BOTH, GOING, caller), None)
        for caller in HEATH[1]:
            self.same(winding(HEATH, ASH, caller), None)
            self.same(winding(HEATH, begun(HEATH), caller), None)
        self.same(winding(ALONE, (0, (0,)), "ash"), None)

    def test_either_way_about_and_often(self):
        for rest, beats, waves in (
            (3, [1] * 3, 1), (3, [1] * 6, 2), (3, [1] * 8, 2), (13, [6] * 8, 3), (5, [2, 1, 2], 1),
        ):
            for about in (1, -1):
                plan, picture = circling(rest, beats, waves, about)
                ring = round_ring(plan) if about == 1 else turned(round_ring(plan))
                for caller in plan[1]:
                    told = winding(plan, picture, caller)
                    self.assertIn(told, [ring[first:] + ring[:first] for first in range(len(ring))])

    def test_just_one_of_both_is_told(self):
        winds = 0
        for plan, picture, field in (*scenes(400), *small_pictures()):
            for caller in plan[1]:
                if heights(plan, picture, caller) is None:
                    self.winds(field, plan, picture, caller)
                    winds += 1
                else:
                    self.same(winding(plan, picture, caller), None)
        self.assertGreater(winds, 200)

    def test_it_never_gets_quiet_while_the_ring_lies(self):
        for seed, (plan, picture, field) in enumerate(scenes(200)):
            for caller in plan[1]:
                ring = winding(plan, picture, caller)
                if ring is not None:
                    ahead = copy.deepcopy(field)
                    deeds(ahead, Dice(seed), 10, [way for _, way in ring])
                    self.winds(ahead, ahead.plan(), ahead.picture(), caller)
                    self.assertIs(shows_winding(ahead.plan(), ahead.picture(), caller, ring), True)
                    break

    def test_far_beats(self):
        self.same(winding(BOTH, shifted(GOING, FAR), "c"), winding(BOTH, GOING, "c"))

    def test_no_caller(self):
        for caller in ("heron", "", "u", "A"):
            self.refused(NoCaller, caller, winding, BOTH, GOING, caller)
        self.refused(NoCaller, "heron", winding, caller="heron", plan=ALONE, picture=(0, (None,)))

    def test_what_is_handed_in_stays(self):
        self.keeps(winding, BOTH, GOING, "a")
        self.keeps(winding, BOTH, GOING, "b")


class ShowsHeights(Asking):
    def no(self, *given):
        with self.subTest(given=given):
            self.assertIs(shows_heights(*given), False)

    def test_what_is_told_is_shown(self):
        self.assertIs(shows_heights(HEATH, ASH, "elm", [("ash", 0), ("elm", 1), ("oak", 1)]), True)
        self.assertIs(shows_heights(ALONE, (0, (0,)), "ash", [("ash", 0)]), True)
        for plan, picture, _ in scenes(300):
            for caller in plan[1]:
                told = heights(plan, picture, caller)
                self.assertIs(shows_heights(plan, picture, caller, told), told is not None)

    def test_by_name(self):
        told = [("ash", 0), ("elm", 1), ("oak", 1)]
        self.assertIs(shows_heights(plan=HEATH, picture=ASH, caller="ash", thing=told), True)
        self.assertIs(shows_heights(thing=told, plan=HEATH, picture=ASH, caller="fir"), False)

    def test_numbers_all_more(self):
        self.no(HEATH, ASH, "ash", [("ash", 1), ("elm", 2), ("oak", 2)])
        self.no(HEATH, ASH, "ash", [("ash", -1), ("elm", 0), ("oak", 0)])
        self.no(HEATH, ASH, "ash", [("ash", 0), ("elm", -1), ("oak", -1)])

    def test_true_and_false_for_numbers(self):
        self.no(HEATH, ASH, "ash", [("ash", False), ("elm", 1), ("oak", 1)])
        self.no(HEATH, ASH, "ash", [("ash", 0), ("elm", True), ("oak", 1)])
        self.no(HEATH, ASH, "ash", [("ash", 0), ("elm", 1), ("oak", True)])
        self.no(ALONE, (0, (0,)), "ash", [("ash", False)])

    def test_lists_and_tuples_where_the_other_belongs(self):
        told = [("ash", 0), ("elm", 1), ("oak", 1)]
        self.no(HEATH, ASH, "ash", tuple(told))
        self.no(HEATH, ASH, "ash", [list(pair) for pair in told])
        self.no(HEATH, ASH, "ash", [told[0], list(told[1]), told[2]])
        self.no(HEATH, ASH, "ash", [told])

    def test_not_rising_out_twice_and_more(self):
        told = [("ash", 0), ("elm", 1), ("oak", 1)]
        self.no(HEATH, ASH, "ash", told[::-1])
        self.no(HEATH, ASH, "ash", told[:2])
        self.no(HEATH, ASH, "ash", told[1:])
        self.no(HEATH, ASH, "ash", told + told[2:])
        self.no(HEATH, ASH, "ash", told[:1] + told)
        self.no(HEATH, ASH, "ash", told + [("birch", 0)])
        self.no(HEATH, ASH, "ash", told + [("zz", 0)])
        self.no(HEATH, ASH, "ash", [("ash", 0), ("birch", 0), ("elm", 1), ("fir", 0), ("gorse", 0), ("oak", 1)])
        self.no(HEATH, ASH, "ash", [])

    def test_of_another_part_and_another_picture(self):
        told = heights(HEATH, ASH, "ash")
        for caller in ("birch", "fir", "gorse"):
            self.no(HEATH, ASH, caller, told)
        self.no(HEATH, begun(HEATH), "ash", told)
        self.no(HEATH, ASH, "gorse", [("birch", 0), ("fir", 0)])
        self.no(HEATH, ASH, "gorse", [])

    def test_one_or_two_things_otherwise(self):
        for plan, picture, caller in ((HEATH, ASH, "elm"), (LINE, (5, (5, 2, 4, None, None)), "c"), (BOTH, GOING, "b")):
            told = heights(plan, picture, caller)
            for thing in otherwise(told) + twice_otherwise(told, 500):
                self.no(plan, picture, caller, thing)

    def test_things_of_any_make(self):
        for thing in ANY:
            self.no(HEATH, ASH, "ash", thing)
            self.no(ALONE, (0, (0,)), "ash", thing)
            self.no(BOTH, GOING, "a", thing)
            self.no(HEATH, ASH, "ash", [thing, ("elm", 1), ("oak", 1)])
            self.no(HEATH, ASH, "ash", [("ash", thing), ("elm", thing), ("oak", thing)])
            self.no(HEATH, ASH, "ash", [("ash", 0), (thing, 1), ("oak", 1)])

    def test_a_part_that_never_gets_quiet(self):
        for thing in (None, RING, [], [("a", 0), ("c", 0), ("e", 0)], [("a", 1), ("c", 0), ("e", 0)]):
            self.no(BOTH, GOING, "a", thing)
        for one in range(-2, 4):
            for other in range(-2, 4):
                self.no(BOTH, GOING, "a", [("a", 0), ("c", one), ("e", other)])

    def test_no_caller_whatever_the_thing(self):
        for thing in (*ANY, heights(HEATH, ASH, "ash"), RING):
            for caller in ("heron", "", "lane"):
                self.refused(NoCaller, caller, shows_heights, HEATH, ASH, caller, thing)
            self.refused(NoCaller, "g", shows_heights, BOTH, GOING, "g", thing)

    def test_what_is_handed_in_stays(self):
        for thing in ([("ash", 0), ("elm", 1), ("oak", 1)], [["ash", 0]], None, []):
            self.keeps(shows_heights, HEATH, ASH, "elm", thing)


class ShowsWinding(Asking):
    def no(self, *given):
        with self.subTest(given=given):
            self.assertIs(shows_winding(*given), False)

    def holds(self, plan, picture, field, caller, thing):
        due = right_ring(plan, thing) and thing[0][0] in field.part(caller) and field.wind(thing) > 0
        self.assertIs(shows_winding(plan, picture, caller, thing), due, (plan, picture, caller, thing))
        return due

    def test_what_is_told_is_shown(self):
        for plan, picture, _ in (*scenes(300), *small_pictures()[::3]):
            for caller in plan[1]:
                told = winding(plan, picture, caller)
                self.assertIs(shows_winding(plan, picture, caller, told), told is not None)

    def test_by_name(self):
        self.assertIs(shows_winding(plan=BOTH, picture=GOING, caller="a", thing=RING), True)
        self.assertIs(shows_winding(thing=RING, plan=BOTH, picture=GOING, caller="b"), False)

    def test_begun_elsewhere_and_turned_about(self):
        for caller in "ace":
            for first in range(3):
                self.assertIs(shows_winding(BOTH, GOING, caller, RING[first:] + RING[:first]), True)
                back = turned(RING)
                self.no(BOTH, GOING, caller, back[first:] + back[:first])

    def test_a_ring_that_does_not_wind(self):
        self.no(BOTH, begun(BOTH), "a", RING)
        self.no(BOTH, GOING, "b", [("b", "x"), ("d", "y")])
        self.no(HEATH, ASH, "ash", [("ash", "lane"), ("elm", "path"), ("oak", "brook")])

    def test_rings_of_another_part(self):
        for caller in "bdf":
            self.no(BOTH, GOING, caller, RING)
        ways = tuple((name, one, other, 1) for name, one, other in zip("uvwxyz", "abaded", "bccffe"))
        plan = (3, ("a", "b", "c", "d", "e", "f"), ways)
        picture = (2, (0, 1, 2, 0, 2, 1))
        one, other = [("a", "u"), ("b", "v"), ("c", "w")], [("d", "x"), ("f", "y"), ("e", "z")]
        for caller in "abc":
            self.assertIs(shows_winding(plan, picture, caller, one), True)
            self.no(plan, picture, caller, other)
        for caller in "def":
            self.assertIs(shows_winding(plan, picture, caller, other), True)
            self.no(plan, picture, caller, one)

    def test_all_rings_behind_deeds(self):
        shown = 0
        for plan, picture, field in scenes(150):
            rings = all_rings(plan)
            for caller in plan[1]:
                for ring in rings[::3]:
                    shown += self.holds(plan, picture, field, caller, ring)
        self.assertGreater(shown, 100)

    def test_lists_and_tuples_where_the_other_belongs(self):
        self.no(BOTH, GOING, "a", tuple(RING))
        self.no(BOTH, GOING, "a", [list(pair) for pair in RING])
        self.no(BOTH, GOING, "a", [RING[0], list(RING[1]), RING[2]])
        self.no(BOTH, GOING, "a", [RING])

    def test_one_or_two_things_otherwise(self):
        field = Field.of(BOTH, GOING)
        for thing in otherwise(RING) + twice_otherwise(RING, 500):
            self.holds(BOTH, GOING, field, "a", thing)

    def test_things_of_any_make(self):
        for thing in ANY:
            self.no(BOTH, GOING, "a", thing)
            self.no(BOTH, GOING, "b", thing)
            self.no(ALONE, (0, (0,)), "ash", thing)
            for at in range(3):
                self.no(BOTH, GOING, "a", RING[:at] + [thing] + RING[at + 1:])

    def test_heights_are_not_shown(self):
        self.no(HEATH, ASH, "elm", heights(HEATH, ASH, "elm"))
        self.no(BOTH, GOING, "b", heights(BOTH, GOING, "b"))
        self.no(BOTH, GOING, "a", heights(BOTH, GOING, "b"))

    def test_no_caller_whatever_the_thing(self):
        for thing in (*ANY, RING):
            for caller in ("heron", "", "u"):
                self.refused(NoCaller, caller, shows_winding, BOTH, GOING, caller, thing)
        self.assertEqual(NoCaller.__bases__, (LookupError,))

    def test_what_is_handed_in_stays(self):
        for thing in (RING, turned(RING), tuple(RING), [["a", "u"]], None, []):
            self.keeps(shows_winding, BOTH, GOING, "a", thing)

    def test_two_heaths_are_told_apart(self):
        for _ in range(2):
            self.assertIs(shows_winding(BOTH, GOING, "a", RING), True)
            self.assertIs(shows_winding(BOTH, begun(BOTH), "a", RING), False)
            self.same(heights(BOTH, GOING, "a"), None)
            self.same(heights(BOTH, begun(BOTH), "a"), [("a", 0), ("c", 0), ("e", 0)])

    def test_each_is_made_in_its_own_file(self):
        for made in (heights, winding, shows_heights, shows_winding):
            self.assertEqual(made.__module__, "hoarseheath.heights")
