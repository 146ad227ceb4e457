from hoarseheath.beats import run
from hoarseheath.errors import NoCaller
from hoarseheath.heights import heights
from hoarseheath.paces import pace
from hoarseheath.pictures import begun, is_picture
from hoarseheath.rounds import round_of
from tests.heaths import (
    LATE, RINGS, SLOW, WAVES, Asking, Far, Field, circling, in_lowest_terms, scenes, shifted, small_pictures,
    winding_scenes,
)

# A ring round which a call goes on for ever, and beside it a part that gets quiet and one alone.
BOTH = (
    3,
    ("a", "b", "c", "d", "e", "f"),
    (("u", "a", "c", 1), ("v", "c", "e", 1), ("w", "a", "e", 1), ("x", "b", "d", 1), ("y", "b", "d", 1)),
)
GOING = (2, (0, 2, 1, None, 2, None))
LATER = (
    11,
    ("a", "b", "c", "d", "e", "f", "g", "h"),
    (
        ("k", "c", "d", 5), ("l", "a", "e", 5), ("m", "b", "g", 4), ("n", "g", "h", 5), ("o", "d", "f", 5),
        ("p", "a", "h", 5), ("q", "c", "f", 5), ("r", "c", "e", 5), ("s", "b", "h", 5),
    ),
)
SLOWER = (100, (92, None, 97, 93, None, 100, 93, 97))
ALONE = (3, ("ash",), ())
FAR = 10 ** 12


def uneven(rest, beats, gaps):
    """The plan and a picture of one ring, waves going round it so many beats behind one another."""
    plan, _ = circling(rest, beats, 1)
    whole = sum(beats)
    assert sum(gaps) == whole and min(gaps) >= rest
    waves = [sum(gaps[:at]) for at in range(len(gaps))]
    ages = [min((wave - sum(beats[:at])) % whole for wave in waves) for at in range(len(beats))]
    return plan, (whole, tuple(whole - age for age in ages))


def calls_of(plan, picture, caller, beats):
    """For so many beats behind the picture's who of the caller's part calls, by a field that keeps each call."""
    field = Field.of(plan, picture)
    part = field.part(caller)
    rows = {beat: [] for beat in range(picture[0] + 1, picture[0] + beats + 1)}
    for beat, one in field.go(beats):
        if one in part:
            rows[beat].append(one)
    return rows


class RoundOf(Asking):
    def test_ordinary(self):
        for caller in "ace":
            self.same(round_of(BOTH, GOING, caller), (3, 3, 1))
        for caller in "abc":
            self.same(round_of(RINGS, WAVES, caller), (10, 5, 1))
        for caller in "defg":
            self.same(round_of(RINGS, WAVES, caller), (10, 7, 1))

    def test_by_name(self):
        self.same(round_of(plan=BOTH, picture=GOING, caller="a"), (3, 3, 1))
        self.same(round_of(caller="a", picture=GOING, plan=BOTH), (3, 3, 1))

    def test_kinds(self):
        told = round_of(BOTH, GOING, "a")
        self.assertEqual((type(told), *map(type, told)), (tuple, int, int, int))

    def test_a_part_that_gets_quiet(self):
        for caller in "bdf":
            self.same(round_of(BOTH, GOING, caller), None)
        for caller in BOTH[1]:
            self.same(round_of(BOTH, begun(BOTH), caller), None)
        for picture in ((0, (0,)), (0, (None,)), (FAR, (3,))):
            self.same(round_of(ALONE, picture, "ash"), None)
        for plan, picture, _ in scenes(200):
            for caller in plan[1]:
                if heights(plan, picture, caller) is not None:
                    self.same(round_of(plan, picture, caller), None)

    def test_single_rings_with_waves_at_even_distances(self):
        for rest, beats in ((3, [1] * 3), (3, [1] * 8), (5, [2] * 7), (13, [6] * 8), (6, [1] * 6), (13, [6] * 3)):
            for waves in range(1, sum(beats) // rest + 1):
                for about in (1, -1):
                    plan, picture = circling(rest, beats, waves, about)
                    whole = sum(beats)
                    due = (picture[0] + 1, whole // waves, 1) if whole % waves == 0 else (picture[0] + 1, whole, waves)
                    for caller in plan[1]:
                        self.same(round_of(plan, picture, caller), due)

    def test_single_rings_with_waves_at_uneven_distances(self):
        for rest, beats, gaps, due in (
            (3, [1] * 8, [3, 5], (8, 2)),
            (3, [1] * 8, [4, 4], (4, 1)),
            (3, [1] * 7, [3, 4], (7, 2)),
            (13, [6] * 8, [13, 13, 22], (48, 3)),
            (13, [6] * 8, [16, 16, 16], (16, 1)),
            (13, [6] * 8, [13, 17, 18], (48, 3)),
            (13, [6] * 8, [24, 24], (24, 1)),
            (13, [6] * 8, [14, 34], (48, 2)),
            (5, [2] * 8, [5, 5, 6], (16, 3)),
        ):
            plan, picture = uneven(rest, beats, gaps)
            self.assertIs(is_picture(plan, picture), True)
            for caller in plan[1]:
                self.same(round_of(plan, picture, caller), (picture[0] + 1, *due))

    def test_beside_what_is_looked_for_beat_by_beat(self):
        for plan, picture, field in (*scenes(250), *winding_scenes(400), *small_pictures()[::10]):
            part = field.part(plan[1][0])
            due = Far(field, plan[1][0]).round()
            for caller in part:
                self.same(round_of(plan, picture, caller), due)

    def test_first_and_many_are_the_least_by_the_calls_of_some_hundred_beats(self):
        many_first = 0
        for plan, picture, field in winding_scenes(150):
            caller = plan[1][-1]
            first, many, often = round_of(plan, picture, caller)
            self.assertGreater(first, picture[0])
            self.assertGreater(many, 0)
            rows = calls_of(plan, picture, caller, first - picture[0] + 4 * many)
            last = picture[0] + len(rows)
            self.assertTrue(all(rows[beat] == rows[beat + many] for beat in range(first, last - many + 1)))
            if first > picture[0] + 1:
                many_first += 1
                self.assertNotEqual(rows[first - 1], rows[first - 1 + many])
            for less in range(1, many):
                self.assertTrue(any(rows[beat] != rows[beat + less] for beat in range(last - 2 * many, last - less)))
            for one in field.part(caller):
                self.same(sum(one in rows[beat] for beat in range(first, first + many)), often)
                self.same(sum(one in rows[beat] for beat in range(first + 1, first + 1 + many)), often)
        self.assertGreater(many_first, 10)

    def test_many_by_calls_is_the_pace(self):
        for plan, picture, _ in (*scenes(150), *winding_scenes(200)):
            for caller in plan[1]:
                told = round_of(plan, picture, caller)
                self.same(told and in_lowest_terms(*told[1:]), pace(plan, picture, caller))

    def test_rounds_that_come_late(self):
        for plan, picture, due in ((LATE, SLOW, (756, 17, 1)), (LATER, SLOWER, (557, 14, 1))):
            self.assertIs(is_picture(plan, picture), True)
            self.same(Far(Field.of(plan, picture), "a").round(), due)
            for caller in plan[1]:
                self.same(round_of(plan, picture, caller), due)
                for far in (10 ** 6 + 1, FAR):
                    self.same(round_of(plan, shifted(picture, far), caller), (due[0] + far, *due[1:]))

    def test_from_far_beats(self):
        for plan, picture, _ in winding_scenes(60):
            first, many, often = round_of(plan, picture, plan[1][0])
            for far in (1, 10 ** 6, FAR, 10 ** 20):
                self.same(round_of(plan, shifted(picture, far), plan[1][0]), (first + far, many, often))

    def test_from_pictures_later_on(self):
        for plan, picture, _ in winding_scenes(80):
            first, many, often = round_of(plan, picture, "a")
            now = picture
            for later in range(1, 30):
                now, _ = run(plan, now, 1)
                self.same(round_of(plan, now, "a"), (max(first, picture[0] + later + 1), many, often))

    def test_what_was_long_ago_is_all_one(self):
        # Whether b hasn't called at all or just long ago is nothing to the round.
        plan, (beat, lasts) = circling(3, [1] * 8, 1)
        due = round_of(plan, (beat, lasts), "a")
        for at, last in enumerate(lasts):
            if beat - last >= 3:
                for other in (None, 0, 1, last - 1):
                    self.same(round_of(plan, (beat, (*lasts[:at], other, *lasts[at + 1:])), "a"), due)

    def test_no_caller(self):
        for caller in ("heron", "", "u", "A"):
            for picture in (GOING, begun(BOTH)):
                self.refused(NoCaller, caller, round_of, BOTH, picture, caller)
        self.refused(NoCaller, "g", round_of, caller="g", plan=BOTH, picture=GOING)
        self.assertEqual(NoCaller.__bases__, (LookupError,))

    def test_what_is_handed_in_stays(self):
        self.keeps(round_of, BOTH, GOING, "a")
        self.keeps(round_of, BOTH, GOING, "b")

    def test_the_pictures_here_are_pictures(self):
        for plan, picture in ((BOTH, GOING), (RINGS, WAVES), (LATE, SLOW), (LATER, SLOWER)):
            self.assertIs(is_picture(plan, picture), True)

    def test_it_is_made_in_its_own_file(self):
        self.assertEqual(round_of.__module__, "hoarseheath.rounds")
