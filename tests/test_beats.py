from hoarseheath.beats import next_picture, run
from hoarseheath.pictures import begun, is_picture
from tests.heaths import Asking, Field, circling, scenes, shifted, small_pictures

HEATH = (
    13,
    ("ash", "elm", "fir", "oak"),
    (("brook", "ash", "oak", 6), ("lane", "ash", "elm", 2), ("path", "elm", "oak", 3)),
)
ASH = (0, (0, None, None, None))
# Round a ring of three a call goes on for ever: each is free again just as it hears.
RING = (3, ("a", "b", "c"), (("u", "a", "b", 1), ("v", "b", "c", 1), ("w", "a", "c", 1)))
GOING = (2, (0, 1, 2))
LINE = (5, ("a", "b", "c", "d", "e"), tuple((name, one, other, 2) for name, one, other in zip("uvwx", "abcd", "bcde")))
ALONE = (3, ("ash",), ())
FAR = 10 ** 12


def two(rest, *beats):
    """The plan of two callers with a way of each of these beats."""
    return (rest, ("a", "b"), tuple((name, "a", "b", many) for name, many in zip("uvwxyz", beats)))


class NextPicture(Asking):
    def test_nobody_hears(self):
        self.same(next_picture(HEATH, begun(HEATH)), (1, (None, None, None, None)))
        self.same(next_picture(HEATH, ASH), (1, (0, None, None, None)))
        self.same(next_picture(ALONE, (4, (4,))), (5, (4,)))

    def test_one_hears(self):
        self.same(next_picture(HEATH, (1, (0, None, None, None))), (2, (0, 2, None, None)))
        self.same(next_picture(plan=HEATH, picture=(4, (0, 2, None, None))), (5, (0, 2, None, 5)))

    def test_one_that_is_hoarse_lets_it_go_by(self):
        self.same(next_picture(HEATH, (3, (0, 2, None, None))), (4, (0, 2, None, None)))
        self.same(next_picture(HEATH, (5, (0, 2, None, 5))), (6, (0, 2, None, 5)))

    def test_one_that_is_free_just_when_it_hears(self):
        for rest in (5, 6, 7, 24):
            self.same(next_picture(two(rest, 2), (21 + rest, (20 + rest, 22))), (22 + rest, (20 + rest, 22 + rest)))

    def test_two_call_in_one_beat(self):
        plan = (5, ("a", "b", "c"), (("u", "a", "b", 1), ("v", "a", "c", 1)))
        self.same(next_picture(plan, (0, (0, None, None))), (1, (0, 1, 1)))
        plan = (5, ("a", "b", "c"), (("u", "a", "b", 1), ("v", "b", "c", 1)))
        self.same(next_picture(plan, (0, (None, 0, None))), (1, (1, 0, 1)))

    def test_two_are_heard_by_one_in_one_beat(self):
        plan = (5, ("a", "b", "c"), (("u", "a", "b", 1), ("v", "a", "c", 1)))
        self.same(next_picture(plan, (0, (None, 0, 0))), (1, (1, 0, 0)))

    def test_several_ways_between_two(self):
        plan = two(13, 6, 2)
        self.same(next_picture(plan, (1, (0, None))), (2, (0, 2)))
        self.same(next_picture(plan, (5, (0, 2))), (6, (0, 2)))

    def test_behind_deeds(self):
        for plan, picture, _ in (*scenes(400), *small_pictures()):
            ahead = Field.of(plan, picture)
            ahead.go()
            self.same(next_picture(plan, picture), ahead.picture())

    def test_what_is_handed_in_stays(self):
        self.keeps(next_picture, HEATH, ASH)


class Run(Asking):
    def test_ordinary(self):
        self.same(run(HEATH, ASH, 20), ((20, (0, 2, None, 5)), [(2, "elm"), (5, "oak")]))
        self.same(run(plan=HEATH, picture=ASH, beats=4), ((4, (0, 2, None, None)), [(2, "elm")]))
        self.same(run(beats=5, plan=HEATH, picture=ASH), ((5, (0, 2, None, 5)), [(2, "elm"), (5, "oak")]))

    def test_no_beats(self):
        self.same(run(HEATH, ASH, 0), (ASH, []))
        self.same(run(RING, GOING, 0), (GOING, []))

    def test_calls_of_the_picture_are_none_of_these(self):
        self.same(run(HEATH, (2, (0, 2, None, None)), 2), ((4, (0, 2, None, None)), []))
        self.same(run(HEATH, (2, (0, 2, None, None)), 3), ((5, (0, 2, None, 5)), [(5, "oak")]))

    def test_round_a_ring_for_ever(self):
        self.same(
            run(RING, GOING, 7),
            ((9, (9, 7, 8)), [(3, "a"), (4, "b"), (5, "c"), (6, "a"), (7, "b"), (8, "c"), (9, "a")]),
        )
        due = [(beat, "abc"[beat % 3]) for beat in range(3, 403)]
        self.same(run(RING, GOING, 400), ((402, (402, 400, 401)), due))

    def test_round_a_ring_the_other_way_about(self):
        due = [(3, "c"), (4, "b"), (5, "a"), (6, "c"), (7, "b")]
        self.same(run(RING, (2, (2, 1, 0)), 5), ((7, (5, 7, 6)), due))

    def test_waves_that_meet(self):
        due = [(2, "b"), (2, "d"), (4, "c")]
        self.same(run(LINE, (0, (0, None, None, None, 0)), 40), ((40, (0, 2, 4, 2, 0)), due))
        due = [(2, "b"), (3, "d"), (4, "c")]
        self.same(run(LINE, (1, (0, None, None, None, 1)), 40), ((41, (0, 2, 4, 3, 1)), due))
        due = [(4, "c"), (5, "d")]
        self.same(run(LINE, (3, (0, 2, None, None, 3)), 40), ((43, (0, 2, 4, 5, 3)), due))

    def test_a_second_wave_runs_behind_the_first(self):
        due = [(6, "d"), (7, "b"), (8, "e"), (9, "c"), (11, "d"), (13, "e")]
        self.same(run(LINE, (5, (5, 2, 4, None, None)), 40), ((45, (5, 7, 9, 11, 13)), due))

    def test_a_hands_call_ahead_of_hearing(self):
        # b would hear in beat 2 and is made to call in beat 1: a, hoarse, lets that go by, and b a's.
        self.same(run(two(5, 2), (1, (0, 1)), 30), ((31, (0, 1)), []))
        # Made to call ahead of hearing, c sends b nothing that it answers, and d hears it sooner.
        self.same(run(LINE, (3, (0, 2, 3, None, None)), 30), ((33, (0, 2, 3, 5, 7)), [(5, "d"), (7, "e")]))

    def test_two_call_in_one_beat_rising(self):
        ways = tuple((name, *sorted(("d", other)), 1) for name, other in zip("stuvwxy", "abcefgh"))
        star = (3, tuple("abcdefgh"), ways)
        due = [(1, caller) for caller in "abcefgh"]
        picture = (0, (None, None, None, 0, None, None, None, None))
        self.same(run(star, picture, 9), ((9, (1, 1, 1, 0, 1, 1, 1, 1)), due))

    def test_rising_by_beat_ahead_of_caller(self):
        plan = (9, ("a", "b", "c"), (("u", "a", "c", 4), ("v", "b", "c", 1)))
        self.same(run(plan, (0, (None, None, 0)), 9), ((9, (4, 1, 0)), [(1, "b"), (4, "a")]))

    def test_far_beats(self):
        self.same(run(RING, shifted(GOING, FAR), 4), ((FAR + 6, (FAR + 6, FAR + 4, FAR + 5)), [
            (FAR + 3, "a"), (FAR + 4, "b"), (FAR + 5, "c"), (FAR + 6, "a"),
        ]))
        for plan, picture, _ in scenes(100):
            told, calls = run(plan, picture, 30)
            due = (shifted(told, FAR), [(beat + FAR, caller) for beat, caller in calls])
            self.same(run(plan, shifted(picture, FAR), 30), due)

    def test_behind_deeds(self):
        for at, (plan, picture, _) in enumerate(scenes(400)):
            ahead = Field.of(plan, picture)
            beats = at % 50
            calls = ahead.go(beats)
            self.same(run(plan, picture, beats), (ahead.picture(), calls))

    def test_four_hundred_beats(self):
        for plan, picture, _ in scenes(45):
            ahead = Field.of(plan, picture)
            calls = ahead.go(400)
            self.same(run(plan, picture, 400), (ahead.picture(), calls))

    def test_one_beat_after_the_other_and_all_at_once(self):
        for plan, picture, _ in (*scenes(200), *small_pictures()[::9]):
            now, calls = picture, []
            for beats in range(1, 26):
                now = next_picture(plan, now)
                calls = calls + [(now[0], caller) for caller, last in zip(plan[1], now[1]) if last == now[0]]
                if beats % 5 == 0:
                    self.same(run(plan, picture, beats), (now, calls))

    def test_a_run_cut_in_two(self):
        for plan, picture, _ in scenes(150):
            whole = run(plan, picture, 33)
            for first in (0, 1, 10, 32, 33):
                middle, ahead = run(plan, picture, first)
                end, behind = run(plan, middle, 33 - first)
                self.same((end, ahead + behind), whole)

    def test_all_ways_stay_in_step(self):
        for plan, picture, _ in (*scenes(200), *small_pictures()[::5]):
            now = picture
            for _ in range(30):
                now = next_picture(plan, now)
                self.assertIs(is_picture(plan, now), True)

    def test_rings_of_many_waves(self):
        for rest, beats, waves in ((3, [1] * 7, 2), (3, [1] * 8, 2), (13, [6] * 8, 3), (5, [2, 1, 2, 1, 2, 2], 2)):
            for about in (1, -1):
                plan, picture = circling(rest, beats, waves, about)
                _, calls = run(plan, picture, sum(beats) * 5)
                self.assertEqual(len(calls), 5 * waves * len(beats))

    def test_kinds(self):
        told = run(HEATH, ASH, 9)
        self.assertEqual((type(told), type(told[0]), type(told[0][1]), type(told[1])), (tuple, tuple, tuple, list))
        self.assertEqual({type(call) for call in told[1]}, {tuple})
        self.assertEqual({type(last) for last in told[0][1]}, {int, type(None)})
        self.assertEqual(type(next_picture(HEATH, ASH)), tuple)
        self.assertEqual(type(next_picture(HEATH, ASH)[1]), tuple)

    def test_what_is_handed_in_stays(self):
        self.keeps(run, HEATH, ASH, 20)
        self.keeps(run, RING, GOING, 0)

    def test_two_heaths_are_told_apart(self):
        for _ in range(2):
            self.same(run(two(5, 2), (0, (0, None)), 3), ((3, (0, 2)), [(2, "b")]))
            self.same(run(two(5, 1), (0, (0, None)), 3), ((3, (0, 1)), [(1, "b")]))

    def test_each_is_made_in_its_own_file(self):
        for made in (next_picture, run):
            self.assertEqual(made.__module__, "hoarseheath.beats")
