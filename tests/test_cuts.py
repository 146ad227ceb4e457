import copy
import itertools

from hoarseheath.beats import run
from hoarseheath.cuts import cut_out, fewest_cuts, kindling, quenching
from hoarseheath.errors import NoCaller, NoWay
from hoarseheath.heights import heights, winding
from hoarseheath.pictures import begun, is_picture, on_ways
from hoarseheath.plans import is_plan
from tests.heaths import (
    NAMES, RINGS, WAVES, Asking, Dice, Field, circling, scenes, shifted, small_pictures, turned, winding_scenes,
)

# A ring round which a call goes on for ever, and beside it a part that gets quiet and one alone.
BOTH = (
    3,
    ("a", "b", "c", "d", "e", "f"),
    (("u", "a", "c", 1), ("v", "c", "e", 1), ("w", "a", "e", 1), ("x", "b", "d", 1), ("y", "b", "d", 1)),
)
GOING = (2, (0, 2, 1, None, 2, None))
# The same ring with two more ways beside w, and one that leads away.
TWINS = (
    3,
    ("a", "c", "e", "g"),
    (("u", "a", "c", 1), ("v", "c", "e", 1), ("w", "a", "e", 1), ("x", "a", "e", 1), ("y", "a", "g", 1), ("z", "a", "e", 1)),
)
ROUND = (2, (0, 1, 2, 1))
# Two rings that share the way w between a and c.
SHARED = (
    3,
    ("a", "b", "c", "d"),
    (("u", "a", "b", 1), ("v", "b", "c", 1), ("w", "a", "c", 1), ("x", "c", "d", 1), ("y", "a", "d", 1)),
)
OPPOSED = (2, (0, 1, 2, 1))
ALONE = (3, ("ash",), ())


def gets_quiet(plan, picture, caller, ways):
    """Whether, these ways cut, all of a caller's part get quiet, by a field that keeps each call."""
    field = Field.of(plan, picture)
    part = field.part(caller)
    for name in ways:
        field.cut(name)
    # Each wave starts at a call that was and passes seven ways of six beats at most.
    field.go(60)
    return not any(hearer in part for _, hearer, _ in field.flying)


def ways_of(plan, picture, caller):
    part = Field.of(plan, picture).part(caller)
    return [name for name, one, _, _ in plan[2] if one in part]


def due_quenching(plan, picture, caller):
    if gets_quiet(plan, picture, caller, []):
        return None
    return [name for name in ways_of(plan, picture, caller) if gets_quiet(plan, picture, caller, [name])]


def due_cuts(plan, picture, caller):
    """The least of the shortest lists, looked for among all of them."""
    names = ways_of(plan, picture, caller)
    for many in range(len(names) + 1):
        fits = [list(ways) for ways in itertools.combinations(names, many) if gets_quiet(plan, picture, caller, ways)]
        if fits:
            return min(fits)


def due_kindling(plan, name):
    """The least number of beats, tried one by one on a field, till long behind the last call."""
    way = next(way for way in plan[2] if way[0] == name)
    field = Field(plan[0], plan[1])
    for other in plan[2]:
        if other != way:
            field.add_way(other)
    field.call(way[1])
    for beats in range(110):
        if field.may_lay(way):
            laid = copy.deepcopy(field)
            laid.add_way(way)
            if laid.to_come(way[1]) is None:
                return beats
        field.go()
    return None


def plans(many):
    """So many plans with many ways, most of them rings."""
    dice = Dice(77)
    rows = [plan for plan, _, _ in (*scenes(40), *winding_scenes(40))]
    while len(rows) < many:
        callers = NAMES[:3 + dice.under(6)]
        most = 1 + dice.under(6)
        ways = []
        for name in "klmnopqrst"[:len(callers) + dice.under(11 - len(callers))]:
            one, other = sorted((dice.pick(callers), dice.pick(callers)))
            if one < other:
                ways.append((name, one, other, 1 + dice.under(most)))
        rest = 2 * max([1] + [way[3] for way in ways]) + 1 + dice.under(3) * dice.under(2)
        rows.append((rest, callers, tuple(ways)))
    return rows


class CutOut(Asking):
    def test_ordinary(self):
        rest, callers, (u, v, w, x, y) = BOTH
        self.same(cut_out(BOTH, ["u"]), (rest, callers, (v, w, x, y)))
        self.same(cut_out(BOTH, ["v", "x"]), (rest, callers, (u, w, y)))
        self.same(cut_out(BOTH, ["u", "v", "w", "x", "y"]), (rest, callers, ()))

    def test_no_way(self):
        for plan in (BOTH, TWINS, ALONE):
            self.same(cut_out(plan, []), plan)
            self.same(cut_out(plan, ()), plan)

    def test_by_name(self):
        self.same(cut_out(plan=BOTH, ways=["y", "u"]), (3, BOTH[1], BOTH[2][1:4]))
        self.same(cut_out(ways=["y", "u"], plan=BOTH), (3, BOTH[1], BOTH[2][1:4]))

    def test_in_any_order_and_as_a_tuple(self):
        for many in range(6):
            due = None
            for ways in itertools.permutations("uvwxy", many):
                if many == 0 or sorted(ways) == list(ways):
                    left = tuple(way for way in BOTH[2] if way[0] not in ways)
                    due = (3, BOTH[1], left)
                    self.same(cut_out(BOTH, list(reversed(ways))), due)
                    self.same(cut_out(BOTH, ways), due)

    def test_pictures_stay_pictures(self):
        for plan, picture, _ in (*scenes(60), *winding_scenes(60)):
            names = [way[0] for way in plan[2]]
            for ways in ([], names[:1], names[-1:], names[::2], names[1::2], names):
                left = cut_out(plan, ways)
                self.assertIs(is_plan(left), True)
                self.assertIs(is_picture(left, picture), True)
                self.same(left, (*plan[:2], tuple(way for way in plan[2] if way[0] not in ways)))

    def test_no_way_of_the_least_that_is_not_there(self):
        for ways, what in (
            (["z"], "z"), (["u", "z"], "z"), (["z", "u"], "z"), (["z", "t"], "t"), (["t", "z"], "t"),
            (["zz", "u", "t", "v"], "t"), (["uu"], "uu"), ([""], ""), (["z", ""], ""), (["a"], "a"),
            (["zz", "z"], "z"), (["w", "c", "x", "b"], "b"),
        ):
            self.refused(NoWay, what, cut_out, BOTH, ways)
            self.refused(NoWay, what, cut_out, BOTH, tuple(ways))
        self.refused(NoWay, "u", cut_out, ALONE, ["u"])
        self.refused(NoWay, "q", cut_out, ways=["z", "q"], plan=BOTH)
        self.assertEqual(NoWay.__bases__, (LookupError,))

    def test_what_is_handed_in_stays(self):
        for ways in ([], ["u"], ["y", "u"]):
            self.keeps(cut_out, BOTH, ways)


class Quenching(Asking):
    def test_single_rings(self):
        for rest, beats, waves in ((3, [1, 1, 1], 1), (3, [1] * 8, 2), (13, [6] * 8, 3), (5, [2, 1, 2, 2], 1)):
            for about in (1, -1):
                plan, picture = circling(rest, beats, waves, about)
                for caller in plan[1]:
                    self.same(quenching(plan, picture, caller), [way[0] for way in plan[2]])

    def test_of_its_own_part_alone(self):
        for caller in "ace":
            self.same(quenching(BOTH, GOING, caller), ["u", "v", "w"])
        for caller in "abc":
            self.same(quenching(RINGS, WAVES, caller), ["p", "q", "r"])
        for caller in "defg":
            self.same(quenching(RINGS, WAVES, caller), ["s", "t", "u", "v"])

    def test_by_name(self):
        self.same(quenching(plan=BOTH, picture=GOING, caller="c"), ["u", "v", "w"])
        self.same(quenching(caller="c", picture=GOING, plan=BOTH), ["u", "v", "w"])

    def test_several_ways_between_two(self):
        for caller in TWINS[1]:
            self.same(quenching(TWINS, ROUND, caller), ["u", "v"])

    def test_rings_that_share_ways(self):
        for caller in SHARED[1]:
            self.same(quenching(SHARED, OPPOSED, caller), due_quenching(SHARED, OPPOSED, caller))
            self.same(quenching(SHARED, OPPOSED, caller), ["w"])

    def test_none_where_it_gets_quiet_anyway(self):
        for caller in "bdf":
            self.same(quenching(BOTH, GOING, caller), None)
        for caller in BOTH[1]:
            self.same(quenching(BOTH, begun(BOTH), caller), None)
        self.same(quenching(ALONE, (0, (0,)), "ash"), None)
        for plan, picture, field in scenes(120):
            for caller in plan[1]:
                if field.to_come(caller) is not None:
                    self.same(quenching(plan, picture, caller), None)

    def test_where_none_alone_is_enough(self):
        none = 0
        for plan, picture, _ in winding_scenes(250):
            told = quenching(plan, picture, "a")
            none += told == []
            self.same(told, due_quenching(plan, picture, "a"))
        self.assertGreater(none, 20)

    def test_beside_the_beats_one_by_one(self):
        for plan, picture, _ in (*scenes(120), *small_pictures()[::60], *winding_scenes(80)):
            for caller in plan[1]:
                self.same(quenching(plan, picture, caller), due_quenching(plan, picture, caller))

    def test_what_is_left_gets_quiet(self):
        for plan, picture, field in winding_scenes(100):
            for way in quenching(plan, picture, "a"):
                left = cut_out(plan, [way])
                self.same([winding(left, picture, caller) for caller in field.part("a")], [None] * len(field.part("a")))

    def test_far_beats(self):
        self.same(quenching(BOTH, shifted(GOING, 10 ** 12), "a"), ["u", "v", "w"])

    def test_what_is_handed_in_stays(self):
        self.keeps(quenching, BOTH, GOING, "a")
        self.keeps(quenching, BOTH, GOING, "b")


class FewestCuts(Asking):
    def test_single_rings(self):
        for rest, beats, waves in ((3, [1, 1, 1], 1), (3, [1] * 8, 2), (13, [6] * 8, 3), (5, [2, 1, 2, 2], 1)):
            for about in (1, -1):
                plan, picture = circling(rest, beats, waves, about)
                for caller in plan[1]:
                    self.same(fewest_cuts(plan, picture, caller), [plan[2][0][0]])

    def test_of_its_own_part_alone(self):
        for caller in "ace":
            self.same(fewest_cuts(BOTH, GOING, caller), ["u"])
        for caller in "abc":
            self.same(fewest_cuts(RINGS, WAVES, caller), ["p"])
        for caller in "defg":
            self.same(fewest_cuts(RINGS, WAVES, caller), ["s"])

    def test_by_name(self):
        self.same(fewest_cuts(plan=BOTH, picture=GOING, caller="c"), ["u"])
        self.same(fewest_cuts(caller="c", picture=GOING, plan=BOTH), ["u"])

    def test_several_ways_between_two(self):
        for caller in TWINS[1]:
            self.same(fewest_cuts(TWINS, ROUND, caller), ["u"])
        # With u and v doubled, too, all three or two of a pair are to be cut.
        ways = (("k", "a", "c", 1), ("l", "c", "e", 1), *TWINS[2])
        for caller in TWINS[1]:
            self.same(fewest_cuts((3, TWINS[1], ways), ROUND, caller), ["k", "u"])
        ways = (("k", "a", "c", 1), ("l", "a", "c", 1), *TWINS[2])
        for caller in TWINS[1]:
            self.same(fewest_cuts((3, TWINS[1], ways), ROUND, caller), ["v"])
        for names in (("k", "l", "m", "n"), ("s", "u", "v", "x")):
            ways = [("w", "a", "e", 1), ("y", "a", "e", 1), ("z", "a", "e", 1)]
            ways += [(name, *ends, 1) for name, ends in zip(names, (("a", "c"), ("c", "e"), ("a", "c"), ("c", "e")))]
            plan = (3, ("a", "c", "e"), tuple(sorted(ways)))
            self.same(fewest_cuts(plan, (2, (0, 1, 2)), "e"), [names[0], names[2]])

    def test_rings_that_share_ways(self):
        for caller in SHARED[1]:
            self.same(fewest_cuts(SHARED, OPPOSED, caller), ["w"])

    def test_nothing_where_all_get_quiet_anyway(self):
        for caller in "bdf":
            self.same(fewest_cuts(BOTH, GOING, caller), [])
        for caller in BOTH[1]:
            self.same(fewest_cuts(BOTH, begun(BOTH), caller), [])
        self.same(fewest_cuts(ALONE, (0, (0,)), "ash"), [])
        for plan, picture, field in scenes(120):
            for caller in plan[1]:
                if field.to_come(caller) is not None:
                    self.same(fewest_cuts(plan, picture, caller), [])

    def test_the_least_of_the_shortest_beside_the_beats_one_by_one(self):
        seen = {}
        for plan, picture, _ in (*winding_scenes(140), *scenes(60), *small_pictures()[::80]):
            caller = plan[1][-1]
            told = fewest_cuts(plan, picture, caller)
            seen[len(told)] = seen.get(len(told), 0) + 1
            self.same(told, due_cuts(plan, picture, caller))
        self.assertGreater(seen[2], 10)

    def test_the_same_of_each_caller_of_the_part(self):
        for plan, picture, field in winding_scenes(40):
            due = fewest_cuts(plan, picture, "a")
            for caller in field.part("a"):
                self.same(fewest_cuts(plan, picture, caller), due)

    def test_what_is_left_gets_quiet(self):
        for plan, picture, field in winding_scenes(100):
            left = cut_out(plan, fewest_cuts(plan, picture, "a"))
            for caller in field.part("a"):
                self.assertIsNotNone(heights(left, picture, caller))
            self.same(on_ways(left, run(left, picture, 60)[0]), [])

    def test_one_alone_is_the_least_that_quenches(self):
        for plan, picture, _ in winding_scenes(150):
            told = quenching(plan, picture, "a")
            if told:
                self.same(fewest_cuts(plan, picture, "a"), told[:1])

    def test_far_beats(self):
        self.same(fewest_cuts(BOTH, shifted(GOING, 10 ** 12), "a"), ["u"])

    def test_what_is_handed_in_stays(self):
        self.keeps(fewest_cuts, BOTH, GOING, "a")
        self.keeps(fewest_cuts, BOTH, GOING, "b")


class Kindling(Asking):
    def test_ordinary(self):
        plan = (3, ("a", "b", "c"), (("u", "a", "b", 1), ("v", "b", "c", 1), ("w", "a", "c", 1)))
        # c hears by way of b in the second beat: then it's too late.
        self.same(kindling(plan, "w"), due_kindling(plan, "w"))
        plan = (3, NAMES[:5], tuple((name, one, other, 1) for name, one, other in zip("uvwxy", "abcda", "bcdee")))
        self.same(kindling(plan, "y"), 2)
        for name in "uvwx":
            self.same(kindling(plan, name), 2)
        plan = (13, NAMES[:4], tuple((name, one, other, 6) for name, one, other in zip("uvwx", "abca", "bcdd")))
        self.same([kindling(plan, name) for name in "uvwx"], [7, 7, 7, 7])

    def test_by_name(self):
        plan = (3, NAMES[:5], tuple((name, one, other, 1) for name, one, other in zip("uvwxy", "abcda", "bcdee")))
        self.same(kindling(plan=plan, way="y"), 2)
        self.same(kindling(way="y", plan=plan), 2)

    def test_none_where_no_ring_is_long_enough(self):
        for plan in (
            (3, ("a", "b"), (("u", "a", "b", 1),)),
            (13, ("a", "b"), (("u", "a", "b", 6), ("v", "a", "b", 6))),
            (24, ("a", "b", "c"), (("u", "a", "b", 6), ("v", "b", "c", 6), ("w", "a", "c", 6))),
            (13, NAMES, tuple((name, one, other, 6) for name, one, other in zip("nopqrst", "abcdefg", "bcdefgh"))),
            (13, NAMES, (("u", "a", "b", 6),)),
        ):
            for way in plan[2]:
                self.same(kindling(plan, way[0]), None)

    def test_single_rings(self):
        some = 0
        for rest in (3, 5, 7, 13, 24):
            for beats in ([1] * 3, [1] * 8, [2] * 4, [2, 1, 2], [3] * 3, [6] * 3, [6] * 8, [6, 1, 1, 6], [1, 1, 1, 1, 2]):
                if 2 * max(beats) + 1 <= rest:
                    plan, _ = circling(max(rest, 3), beats, 1)
                    for way in plan[2]:
                        told = kindling(plan, way[0])
                        some += told is not None
                        self.same(told, due_kindling(plan, way[0]))
        self.assertGreater(some, 50)

    def test_beside_the_beats_one_by_one(self):
        told = []
        for plan in plans(260):
            for way in plan[2]:
                told.append(kindling(plan, way[0]))
                self.same(told[-1], due_kindling(plan, way[0]))
        self.assertGreater(len([1 for beats in told if beats is not None]), 200)
        self.assertGreater(told.count(None), 200)
        self.assertGreater(len(set(told)), 6)

    def test_numbers_are_passed_by_where_it_may_not_be_laid(self):
        # Till the call is heard no more by the way the other one would owe, then both are free too far apart.
        passed = 0
        for plan in plans(200):
            for way in plan[2]:
                beats = kindling(plan, way[0])
                if beats is not None:
                    left = cut_out(plan, [way[0]])
                    field = Field(left[0], left[1])
                    for other in left[2]:
                        field.add_way(other)
                    field.call(way[1])
                    for _ in range(beats):
                        passed += not field.may_lay(way)
                        field.go()
                    self.assertTrue(field.may_lay(way))
                    self.assertIs(is_picture(plan, field.picture()), True)
                    self.same(heights(plan, field.picture(), way[1]), None)
        self.assertGreater(passed, 200)

    def test_no_way(self):
        for plan in (BOTH, ALONE):
            for way in ("q", "", "a", "ash", "U"):
                self.refused(NoWay, way, kindling, plan, way)
        self.refused(NoWay, "q", kindling, way="q", plan=BOTH)

    def test_what_is_handed_in_stays(self):
        for way in "ux":
            self.keeps(kindling, BOTH, way)


class Refusals(Asking):
    def test_no_caller(self):
        for caller in ("heron", "", "u", "A"):
            for plan, picture in ((BOTH, GOING), (BOTH, begun(BOTH)), (ALONE, (0, (0,)))):
                for ask in (quenching, fewest_cuts):
                    self.refused(NoCaller, caller, ask, plan, picture, caller)
        self.refused(NoCaller, "g", quenching, caller="g", plan=BOTH, picture=GOING)
        self.refused(NoCaller, "g", fewest_cuts, caller="g", plan=BOTH, picture=GOING)
        self.assertEqual(NoCaller.__bases__, (LookupError,))

    def test_the_pictures_here_are_pictures(self):
        for plan, picture in ((BOTH, GOING), (TWINS, ROUND), (SHARED, OPPOSED), (RINGS, WAVES)):
            self.assertIs(is_plan(plan), True)
            self.assertIs(is_picture(plan, picture), True)
        for plan in plans(260):
            self.assertIs(is_plan(plan), True)

    def test_rings_turned_about(self):
        for rest, beats, waves in ((3, [1] * 4, 1), (13, [6] * 8, 3)):
            plan, picture = circling(rest, beats, waves, -1)
            ring = winding(plan, picture, "a")
            self.assertNotEqual(ring, turned(ring))
            self.same(fewest_cuts(plan, picture, "a"), ["n"])

    def test_each_is_made_in_its_own_file(self):
        for made in (cut_out, quenching, fewest_cuts, kindling):
            self.assertEqual(made.__module__, "hoarseheath.cuts")
