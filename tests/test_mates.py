from hoarseheath.beats import run
from hoarseheath.errors import NoWay
from hoarseheath.mates import mates
from hoarseheath.pictures import begun
from tests.heaths import Asking, Field, circling, scenes, shifted, small_pictures

HEATH = (
    13,
    ("ash", "elm", "fir", "oak"),
    (("brook", "ash", "oak", 6), ("lane", "ash", "elm", 2), ("path", "elm", "oak", 3)),
)
ASH = (0, (0, None, None, None))
RING = (3, ("a", "b", "c"), (("u", "a", "b", 1), ("v", "b", "c", 1), ("w", "a", "c", 1)))
# Round the ring a call goes on for ever: in this picture a owes c an answer by w.
GOING = (2, (0, 1, 2))
BACK = (2, (2, 1, 0))
FAR = 10 ** 12


def due_mates(plan, picture, name, beats):
    """The mates by a way, as the calls since nobody owed belong together one by one."""
    ahead = Field.of(plan, picture)
    ahead.go(beats)
    _, one, other, _ = ahead.ways[name]
    ones, others = ahead.since[name][one], ahead.since[name][other]
    rows = []
    for at in range(max(len(ones), len(others))):
        pair = (ones[at] if at < len(ones) else None, others[at] if at < len(others) else None)
        if any(beat is not None and beat > picture[0] for beat in pair):
            rows.append(pair)
    return rows


class Mates(Asking):
    def test_nobody_owes(self):
        self.same(mates(HEATH, ASH, "path", 20), [(2, 5)])
        self.same(mates(RING, GOING, "u", 7), [(3, 4), (6, 7), (9, None)])
        self.same(mates(RING, GOING, "v", 6), [(4, 5), (7, 8)])
        self.same(mates(RING, GOING, "v", 5), [(4, 5), (7, None)])

    def test_nobody_owes_and_other_is_first(self):
        self.same(mates(RING, BACK, "v", 6), [(4, 3), (7, 6)])
        self.same(mates(RING, BACK, "v", 4), [(4, 3), (None, 6)])
        self.same(mates(RING, BACK, "u", 6), [(5, 4), (8, 7)])

    def test_other_owes(self):
        self.same(mates(HEATH, ASH, "lane", 20), [(0, 2)])
        self.same(mates(HEATH, ASH, "brook", 20), [(0, 5)])
        self.same(mates(RING, BACK, "w", 6), [(2, 3), (5, 6), (8, None)])

    def test_one_owes(self):
        self.same(mates(RING, GOING, "w", 7), [(3, 2), (6, 5), (9, 8)])
        self.same(mates(RING, GOING, "w", 6), [(3, 2), (6, 5), (None, 8)])
        plan = (13, ("a", "b"), (("u", "a", "b", 6),))
        self.same(mates(plan, (4, (None, 0)), "u", 2), [(6, 0)])

    def test_what_has_not_come(self):
        self.same(mates(HEATH, ASH, "path", 4), [(2, None)])
        self.same(mates(HEATH, ASH, "path", 2), [(2, None)])
        self.same(mates(RING, GOING, "u", 1), [(3, None)])
        self.same(mates(RING, BACK, "v", 1), [(None, 3)])

    def test_mates_that_are_none_of_these_calls(self):
        # The last call of ash is answered later: among what comes till then it has no mate.
        self.same(mates(HEATH, ASH, "lane", 1), [])
        self.same(mates(HEATH, ASH, "brook", 4), [])
        self.same(mates(HEATH, (2, (0, 2, None, None)), "lane", 20), [])
        self.same(mates(HEATH, (4, (0, 2, None, None)), "path", 20), [(2, 5)])

    def test_no_beats(self):
        for plan, picture in ((HEATH, ASH), (HEATH, begun(HEATH)), (RING, GOING), (RING, BACK)):
            for way in plan[2]:
                self.same(mates(plan, picture, way[0], 0), [])

    def test_nothing_comes(self):
        for beats in (1, 400):
            self.same(mates(HEATH, begun(HEATH), "lane", beats), [])
            self.same(mates(HEATH, (400, (0, 2, None, 5)), "brook", beats), [])

    def test_several_ways_between_two(self):
        plan = (9, ("a", "b", "c"), (("u", "a", "b", 4), ("v", "a", "b", 1), ("w", "b", "c", 2)))
        for way in "uv":
            self.same(mates(plan, (0, (0, None, None)), way, 5), [(0, 1)])
            self.same(mates(plan, (0, (None, 0, None)), way, 5), [(1, 0)])
            self.same(mates(plan, (0, (None, None, 0)), way, 5), [(3, 2)])

    def test_two_that_call_in_one_beat(self):
        plan = (9, ("a", "b", "c"), (("u", "a", "b", 4), ("v", "a", "c", 2), ("w", "b", "c", 2)))
        self.same(mates(plan, (0, (None, None, 0)), "u", 3), [(2, 2)])

    def test_a_hands_call_ahead_of_hearing(self):
        plan = (5, ("a", "b", "c"), (("u", "a", "b", 2), ("v", "b", "c", 2)))
        self.same(mates(plan, (1, (0, 1, None)), "u", 20), [])
        self.same(mates(plan, (1, (0, 1, None)), "v", 20), [(1, 3)])

    def test_by_name(self):
        self.same(mates(plan=HEATH, picture=ASH, way="lane", beats=2), [(0, 2)])
        self.same(mates(HEATH, ASH, beats=5, way="brook"), [(0, 5)])

    def test_behind_deeds(self):
        for at, (plan, picture, _) in enumerate((*scenes(400), *small_pictures()[::3])):
            for way in plan[2]:
                beats = (at * 7 + way[3]) % 70
                self.same(mates(plan, picture, way[0], beats), due_mates(plan, picture, way[0], beats))

    def test_each_beat_of_a_heath_that_goes_on(self):
        for rest, long, waves in ((3, [1] * 5, 1), (5, [2, 1, 2, 1, 2, 2], 2), (7, [3, 1, 3], 1)):
            for about in (1, -1):
                plan, picture = circling(rest, long, waves, about)
                for way in plan[2]:
                    for beats in range(25):
                        self.same(mates(plan, picture, way[0], beats), due_mates(plan, picture, way[0], beats))

    def test_four_hundred_beats(self):
        for plan, picture, _ in scenes(30):
            for way in plan[2]:
                self.same(mates(plan, picture, way[0], 400), due_mates(plan, picture, way[0], 400))

    def test_each_call_has_one_mate_within_the_beats_of_the_way(self):
        for plan, picture, _ in scenes(200):
            _, calls = run(plan, picture, 60)
            for name, one, other, beats in plan[2]:
                rows = mates(plan, picture, name, 60)
                for side, caller in ((0, one), (1, other)):
                    told = [pair[side] for pair in rows if pair[side] is not None]
                    self.assertEqual(told, sorted(set(told)))
                    due = [beat for beat, who in calls if who == caller]
                    self.assertEqual([beat for beat in told if beat > picture[0]], due)
                for pair in rows:
                    if None not in pair:
                        self.assertLessEqual(abs(pair[0] - pair[1]), beats)

    def test_far_beats(self):
        self.same(mates(RING, shifted(GOING, FAR), "w", 6), [(FAR + 3, FAR + 2), (FAR + 6, FAR + 5), (None, FAR + 8)])
        self.same(mates(RING, shifted(BACK, FAR), "w", 3), [(FAR + 2, FAR + 3), (FAR + 5, None)])

    def test_kinds(self):
        told = mates(RING, GOING, "w", 6)
        self.assertIs(type(told), list)
        self.assertEqual([type(pair) for pair in told], [tuple] * 3)

    def test_no_way(self):
        for way in ("heron", "", "brooks", "ash", "LANE"):
            for beats in (0, 5, 400):
                self.refused(NoWay, way, mates, HEATH, ASH, way, beats)
        self.refused(NoWay, "u", mates, (3, ("ash",), ()), (0, (None,)), "u", 3)
        self.refused(NoWay, "u", mates, beats=3, way="u", picture=ASH, plan=HEATH)
        self.assertEqual(NoWay.__bases__, (LookupError,))

    def test_what_is_handed_in_stays(self):
        self.keeps(mates, HEATH, ASH, "lane", 20)
        self.keeps(mates, RING, GOING, "w", 6)
        self.keeps(mates, RING, GOING, "w", 0)

    def test_it_is_made_in_its_own_file(self):
        self.assertEqual(mates.__module__, "hoarseheath.mates")
