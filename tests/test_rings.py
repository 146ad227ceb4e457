import itertools

from hoarseheath.errors import NoWay
from hoarseheath.pictures import begun
from hoarseheath.rings import beats_round, is_ring, lean, wind
from tests.heaths import (
    ANY, NAMES, Asking, Field, all_rings, beats_of, circling, otherwise, right_ring, round_ring, scenes, shifted,
    small_pictures, turned, twice_otherwise,
)

HEATH = (
    13,
    ("ash", "birch", "elm", "fir", "oak"),
    (
        ("brook", "ash", "oak", 6),
        ("ditch", "birch", "fir", 4),
        ("lane", "ash", "elm", 2),
        ("path", "elm", "oak", 3),
        ("track", "birch", "fir", 1),
    ),
)
ROUND = [("ash", "lane"), ("elm", "path"), ("oak", "brook")]
PAIR = [("birch", "ditch"), ("fir", "track")]
RING = (3, ("a", "b", "c"), (("u", "a", "b", 1), ("v", "b", "c", 1), ("w", "a", "c", 1)))
# Round this ring a call goes on for ever: a owes c an answer by w.
GOING = (2, (0, 1, 2))
STRAIGHT = [("a", "u"), ("b", "v"), ("c", "w")]
# All callers led to one another, by all the ways there may be.
PAIRS = list(itertools.combinations("abcde", 2))
FULL = (3, tuple("abcde"), tuple((name, *pair, 1) for name, pair in zip("klmnopqrst", PAIRS)))
FAR = 10 ** 12


class IsRing(Asking):
    def yes(self, plan, thing):
        with self.subTest(plan=plan, thing=thing):
            self.assertIs(is_ring(plan, thing), True)

    def no(self, plan, thing):
        with self.subTest(plan=plan, thing=thing):
            self.assertIs(is_ring(plan, thing), False)

    def test_ordinary(self):
        self.yes(HEATH, ROUND)
        self.yes(RING, STRAIGHT)

    def test_by_name(self):
        self.assertIs(is_ring(plan=HEATH, thing=ROUND), True)
        self.assertIs(is_ring(thing=[], plan=HEATH), False)

    def test_begun_anywhere_and_turned_about(self):
        for ring in (ROUND, turned(ROUND)):
            for first in range(3):
                self.yes(HEATH, ring[first:] + ring[:first])
        self.yes(HEATH, [("ash", "brook"), ("oak", "path"), ("elm", "lane")])

    def test_two_callers_by_two_ways(self):
        self.yes(HEATH, PAIR)
        self.yes(HEATH, [("birch", "track"), ("fir", "ditch")])
        self.yes(HEATH, [("fir", "track"), ("birch", "ditch")])
        self.no(HEATH, [("birch", "ditch"), ("fir", "ditch")])
        self.no(HEATH, [("birch", "ditch"), ("birch", "track")])
        self.no(HEATH, [("ash", "lane"), ("elm", "lane")])

    def test_ways_not_in_the_callers_order(self):
        self.no(HEATH, [("ash", "brook"), ("elm", "path"), ("oak", "lane")])
        self.no(HEATH, [("ash", "path"), ("elm", "brook"), ("oak", "lane")])
        self.no(HEATH, list(reversed(ROUND)))

    def test_a_caller_twice(self):
        plan = (3, tuple("abcde"), (
            ("p", "a", "b", 1), ("q", "b", "c", 1), ("r", "a", "c", 1),
            ("s", "a", "d", 1), ("t", "d", "e", 1), ("u", "a", "e", 1),
        ))
        one, other = [("a", "p"), ("b", "q"), ("c", "r")], [("a", "s"), ("d", "t"), ("e", "u")]
        self.yes(plan, one)
        self.yes(plan, other)
        self.no(plan, one + other)

    def test_a_way_twice(self):
        # Gone round twice: each caller and each way stands there twice.
        self.no(HEATH, ROUND + ROUND)
        self.no(HEATH, PAIR + PAIR)
        line = (3, ("a", "b", "c"), (("u", "a", "b", 1), ("v", "b", "c", 1)))
        self.no(line, [("a", "u"), ("b", "u")])
        self.no(line, [("a", "u"), ("b", "v"), ("c", "v"), ("b", "u")])

    def test_it_does_not_lead_on(self):
        for at in range(3):
            self.no(HEATH, ROUND[:at] + ROUND[at + 1:])
        self.no(HEATH, ROUND + PAIR)
        self.no(HEATH, ROUND[:2] + [("oak", "ditch")])
        self.no(HEATH, ROUND[:2] + [("oak", "path")])
        # It leads on throughout, but the last one not to the first.
        self.no((3, ("a", "b", "c"), RING[2][:2]), [("a", "u"), ("b", "v"), ("c", "w")])
        self.no(FULL, [("a", "k"), ("b", "o"), ("c", "r")])
        self.yes(FULL, [("a", "k"), ("b", "o"), ("c", "l")])

    def test_callers_and_ways_that_are_not_there(self):
        for at, (caller, way) in enumerate(ROUND):
            for pair in (("heron", way), (caller, "heron"), (way, caller), (caller, caller), ("", way), (caller, "")):
                self.no(HEATH, ROUND[:at] + [pair] + ROUND[at + 1:])

    def test_lists_and_tuples_where_the_other_belongs(self):
        self.no(HEATH, tuple(ROUND))
        self.no(HEATH, [list(pair) for pair in ROUND])
        self.no(HEATH, tuple(list(pair) for pair in ROUND))
        for at in range(3):
            self.no(HEATH, ROUND[:at] + [list(ROUND[at])] + ROUND[at + 1:])
        self.no(HEATH, [ROUND])

    def test_one_pair_and_none(self):
        self.no(HEATH, [])
        for pair in ROUND + PAIR:
            self.no(HEATH, [pair])
            self.no(HEATH, pair)
        self.no((3, ("ash",), ()), [])

    def test_pairs_of_one_and_of_three(self):
        for at, (caller, way) in enumerate(ROUND):
            for pair in ((caller,), (caller, way, way), (caller, way, None), (), caller, way, None):
                self.no(HEATH, ROUND[:at] + [pair] + ROUND[at + 1:])

    def test_all_rings_of_full_plans(self):
        rings = all_rings(FULL)
        self.assertEqual(len(rings), 2 * (10 * 3 + 15 * 4 + 12 * 5))
        for ring in rings:
            self.yes(FULL, ring)
        many = (13, ("a", "b"), tuple((name, "a", "b", 1) for name in "klmnopqrst"))
        self.assertEqual(len(all_rings(many)), 180)
        for ring in all_rings(many):
            self.yes(many, ring)

    def test_all_rows_of_pairs(self):
        plan = (5, ("a", "b", "c"), (("u", "a", "b", 1), ("v", "b", "c", 2), ("w", "a", "c", 2), ("x", "a", "b", 2)))
        pairs = list(itertools.product("abc", "uvwx"))
        many = 0
        for length in (1, 2, 3, 4):
            for row in itertools.product(pairs, repeat=length):
                ring = list(row)
                due = right_ring(plan, ring)
                many += due
                if is_ring(plan, ring) is not due:
                    self.fail((ring, due))
        self.assertEqual(many, 4 + 2 * 6)

    def test_things_of_any_make(self):
        for thing in ANY:
            self.no(HEATH, thing)
            self.assertIs(is_ring(RING, thing), right_ring(RING, thing), thing)
            self.no(RING, [thing, thing])
            for at in range(3):
                self.no(RING, STRAIGHT[:at] + [thing] + STRAIGHT[at + 1:])
                caller, way = STRAIGHT[at]
                for pair in ((thing, way), (caller, thing), (thing, thing)):
                    ring = STRAIGHT[:at] + [pair] + STRAIGHT[at + 1:]
                    self.assertIs(is_ring(RING, ring), right_ring(RING, ring), ring)

    def test_one_or_two_things_otherwise(self):
        for plan, ring in ((HEATH, ROUND), (HEATH, PAIR), (RING, STRAIGHT), (FULL, all_rings(FULL)[-1])):
            for thing in otherwise(ring) + twice_otherwise(ring, 400):
                self.assertIs(is_ring(plan, thing), right_ring(plan, thing), thing)

    def test_rings_of_many_plans(self):
        for plan, _, _ in scenes(120):
            for ring in all_rings(plan):
                self.assertIs(is_ring(plan, ring), True)

    def test_what_is_handed_in_stays(self):
        for thing in (ROUND, tuple(ROUND), [list(pair) for pair in ROUND], [[]], None):
            self.keeps(is_ring, HEATH, thing)


class BeatsRound(Asking):
    def test_ordinary(self):
        self.same(beats_round(HEATH, ROUND), 11)
        self.same(beats_round(HEATH, PAIR), 5)
        self.same(beats_round(RING, STRAIGHT), 3)

    def test_by_name(self):
        self.same(beats_round(plan=HEATH, ring=ROUND), 11)
        self.same(beats_round(ring=PAIR, plan=HEATH), 5)

    def test_begun_anywhere_and_turned_about(self):
        for ring in (ROUND, turned(ROUND)):
            for first in range(3):
                self.same(beats_round(HEATH, ring[first:] + ring[:first]), 11)

    def test_a_tuple_may_be_handed_in(self):
        self.same(beats_round(HEATH, tuple(ROUND)), 11)

    def test_the_longest(self):
        plan, _ = circling(13, [6] * 8, 3)
        self.same(beats_round(plan, round_ring(plan)), 48)

    def test_all_rings(self):
        for plan, _, _ in scenes(120):
            for ring in all_rings(plan):
                self.same(beats_round(plan, ring), beats_of(plan, ring))

    def test_what_is_handed_in_stays(self):
        self.keeps(beats_round, HEATH, ROUND)
        self.keeps(beats_round, HEATH, tuple(ROUND))


class Lean(Asking):
    def test_nobody_owes(self):
        for way in HEATH[2]:
            self.same(lean(HEATH, begun(HEATH), way[0]), 0)
        self.same(lean(RING, GOING, "u"), 0)

    def test_other_owes(self):
        self.same(lean(HEATH, (0, (0, None, None, None, None)), "brook"), 1)
        self.same(lean(HEATH, (0, (0, None, None, None, None)), "lane"), 1)
        self.same(lean(HEATH, (0, (0, None, None, None, None)), "path"), 0)

    def test_one_owes(self):
        self.same(lean(HEATH, (0, (None, None, None, None, 0)), "brook"), -1)
        self.same(lean(HEATH, (0, (None, None, None, None, 0)), "path"), -1)
        self.same(lean(RING, GOING, "w"), -1)

    def test_several_ways_between_two(self):
        for way in ("ditch", "track"):
            self.same(lean(HEATH, (0, (None, 0, None, None, None)), way), 1)
            self.same(lean(HEATH, (0, (None, None, None, 0, None)), way), -1)
            self.same(lean(HEATH, (1, (None, 0, None, 1, None)), way), 0)

    def test_by_name(self):
        self.same(lean(plan=RING, picture=GOING, way="w"), -1)
        self.same(lean(way="v", plan=RING, picture=GOING), 0)

    def test_behind_deeds(self):
        for plan, picture, field in (*scenes(300), *small_pictures()):
            for way in plan[2]:
                self.same(lean(plan, picture, way[0]), field.lean(way[0]))

    def test_far_beats(self):
        self.same(lean(RING, shifted(GOING, FAR), "w"), -1)

    def test_no_way(self):
        for way in ("heron", "", "brooks", "ash", "LANE"):
            self.refused(NoWay, way, lean, HEATH, begun(HEATH), way)
        self.refused(NoWay, "u", lean, (3, ("ash",), ()), (0, (None,)), "u")
        self.refused(NoWay, "x", lean, way="x", picture=GOING, plan=RING)
        self.assertEqual(NoWay.__bases__, (LookupError,))

    def test_what_is_handed_in_stays(self):
        self.keeps(lean, RING, GOING, "w")


class Wind(Asking):
    def test_ordinary(self):
        self.same(wind(RING, GOING, STRAIGHT), 1)
        self.same(wind(RING, GOING, turned(STRAIGHT)), -1)
        self.same(wind(RING, begun(RING), STRAIGHT), 0)
        self.same(wind(RING, (2, (2, 1, 0)), STRAIGHT), -1)
        self.same(wind(RING, (2, (2, 1, 0)), turned(STRAIGHT)), 1)

    def test_by_name(self):
        self.same(wind(plan=RING, picture=GOING, ring=STRAIGHT), 1)
        self.same(wind(ring=turned(STRAIGHT), picture=GOING, plan=RING), -1)

    def test_leans_that_come_to_nothing(self):
        called = (0, (0, None, None, None, None))
        self.same([lean(HEATH, called, way) for _, way in ROUND], [1, 0, 1])
        self.same(wind(HEATH, called, ROUND), 0)
        self.same(wind(HEATH, called, turned(ROUND)), 0)
        self.same(wind(HEATH, (0, (None, 0, None, None, None)), PAIR), 0)

    def test_begun_anywhere(self):
        for ring, due in ((STRAIGHT, 1), (turned(STRAIGHT), -1)):
            for first in range(3):
                self.same(wind(RING, GOING, ring[first:] + ring[:first]), due)

    def test_a_tuple_may_be_handed_in(self):
        self.same(wind(RING, GOING, tuple(STRAIGHT)), 1)
        self.same(wind(RING, GOING, tuple(turned(STRAIGHT))), -1)

    def test_as_many_waves_as_go_round(self):
        for rest, beats, most in ((3, [1] * 8, 2), (3, [1] * 3, 1), (13, [6] * 8, 3), (13, [6, 1, 6, 1, 6, 6], 2)):
            for waves in range(1, most + 1):
                for about in (1, -1):
                    plan, picture = circling(rest, beats, waves, about)
                    self.same(wind(plan, picture, round_ring(plan)), waves * about)
                    self.same(wind(plan, picture, turned(round_ring(plan))), -waves * about)

    def test_all_rings_behind_deeds(self):
        winds = set()
        for plan, picture, field in scenes(200):
            for ring in all_rings(plan):
                due = field.wind(ring)
                winds.add(due)
                self.same(wind(plan, picture, ring), due)
                # No ring winds more often than the rest fits into its beats.
                self.assertLessEqual(abs(due) * plan[0], beats_of(plan, ring))
        self.assertGreaterEqual(winds, {-2, -1, 0, 1, 2})

    def test_small_pictures(self):
        for plan, picture, field in small_pictures():
            for ring in all_rings(plan):
                self.same(wind(plan, picture, ring), field.wind(ring))

    def test_it_never_changes_while_the_ring_lies(self):
        for rest, beats, waves in ((3, [1] * 4, 1), (5, [2, 1, 2, 2, 2, 2, 1], 2), (7, [3, 3, 3], 1)):
            plan, picture = circling(rest, beats, waves)
            ring = round_ring(plan)
            field = Field.of(plan, picture)
            field.called["h"] = []
            calls = 0
            for beat in range(60):
                for caller in plan[1]:
                    if beat % 5 == 1 and field.may_call(caller):
                        field.call(caller)
                        calls += 1
                way = ("z", plan[1][beat % len(plan[1])], "h", 1)
                if beat % 10 == 3 and field.may_lay(way):
                    field.add_way(way)
                if beat % 10 == 9 and "z" in field.ways:
                    field.cut("z")
                field.go()
                self.same(wind(field.plan(), field.picture(), ring), waves)
            self.assertGreater(calls, 0)

    def test_far_beats(self):
        self.same(wind(RING, shifted(GOING, FAR), STRAIGHT), 1)

    def test_what_is_handed_in_stays(self):
        self.keeps(wind, RING, GOING, STRAIGHT)
        self.keeps(wind, RING, GOING, tuple(STRAIGHT))

    def test_two_heaths_are_told_apart(self):
        for _ in range(2):
            self.same(wind(RING, GOING, STRAIGHT), 1)
            self.same(wind(RING, begun(RING), STRAIGHT), 0)
            self.same(beats_round((7, RING[1], tuple(way[:3] + (3,) for way in RING[2])), STRAIGHT), 9)

    def test_each_is_made_in_its_own_file(self):
        for made in (is_ring, beats_round, lean, wind):
            self.assertEqual(made.__module__, "hoarseheath.rings")


class Eight(Asking):
    def test_a_ring_of_eight(self):
        plan, _ = circling(13, [6] * 8, 3)
        ring = round_ring(plan)
        self.assertEqual([caller for caller, _ in ring], list(NAMES))
        self.assertIs(is_ring(plan, ring), True)
        self.assertIs(is_ring(plan, turned(ring)), True)
        self.assertIs(is_ring(plan, ring[:7]), False)
