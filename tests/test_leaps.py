from hoarseheath.beats import run
from hoarseheath.errors import Gone, NoCaller
from hoarseheath.heights import heights
from hoarseheath.leaps import call_at, calls_in, picture_at
from hoarseheath.pictures import begun, is_picture
from hoarseheath.rounds import round_of
from tests.heaths import (
    LATE, RINGS, SLOW, WAVES, Asking, Far, Field, circling, far_picture, scenes, shifted, small_pictures,
    winding_scenes,
)

# A ring round which a call goes on for ever, and beside it a part that gets quiet and one alone.
BOTH = (
    3,
    ("a", "b", "c", "d", "e", "f"),
    (("u", "a", "c", 1), ("v", "c", "e", 1), ("w", "a", "e", 1), ("x", "b", "d", 1), ("y", "b", "d", 1)),
)
GOING = (2, (0, 2, 1, None, 2, None))
LINE = (5, ("a", "b", "c", "d", "e"), tuple((name, one, other, 2) for name, one, other in zip("uvwx", "abcd", "bcde")))
TWICE = (5, (5, 2, 4, None, None))
ALONE = (3, ("ash",), ())
FAR = 10 ** 12


class PictureAt(Asking):
    def test_ordinary(self):
        self.same(picture_at(LINE, TWICE, 7), (7, (5, 7, 4, 6, None)))
        self.same(picture_at(LINE, TWICE, 13), (13, (5, 7, 9, 11, 13)))
        self.same(picture_at(BOTH, GOING, 5), (5, (3, 2, 4, 3, 5, None)))

    def test_by_name(self):
        self.same(picture_at(plan=LINE, picture=TWICE, beat=7), (7, (5, 7, 4, 6, None)))
        self.same(picture_at(beat=7, picture=TWICE, plan=LINE), (7, (5, 7, 4, 6, None)))

    def test_its_own_beat(self):
        for plan, picture, _ in (*scenes(60), *winding_scenes(60), (BOTH, GOING, None), (LINE, TWICE, None)):
            self.same(picture_at(plan, picture, picture[0]), picture)

    def test_beside_run_beat_by_beat(self):
        for plan, picture, _ in (*scenes(60), *winding_scenes(60), *small_pictures()[::40]):
            now = picture
            for later in range(1, 70):
                now, _ = run(plan, now, 1)
                self.same(picture_at(plan, picture, picture[0] + later), now)

    def test_beside_run_at_400_beats(self):
        for plan, picture, _ in (*scenes(40), *winding_scenes(40)):
            for later in (97, 256, 400):
                self.same(picture_at(plan, picture, picture[0] + later), run(plan, picture, later)[0])

    def test_far_off(self):
        for plan, picture, field in (*scenes(60), *winding_scenes(80)):
            for beat in (10 ** 6 + 1, FAR, FAR + 7, 3 * FAR + 11, 10 ** 30 + 5):
                told = picture_at(plan, picture, beat)
                self.same(told, far_picture(field, beat))
                self.assertIs(is_picture(plan, told), True)

    def test_far_off_and_on_from_there(self):
        for plan, picture, _ in winding_scenes(60):
            there = picture_at(plan, picture, FAR)
            for later in (1, 2, 30):
                self.same(picture_at(plan, picture, FAR + later), run(plan, there, later)[0])
            self.same(picture_at(plan, there, 2 * FAR + 3), picture_at(plan, picture, 2 * FAR + 3))

    def test_from_far_beats(self):
        for plan, picture, _ in (*scenes(30), *winding_scenes(30)):
            for later in (0, 1, 40, FAR):
                self.same(
                    picture_at(plan, shifted(picture, FAR), FAR + picture[0] + later),
                    shifted(picture_at(plan, picture, picture[0] + later), FAR),
                )

    def test_quiet_parts_and_parts_for_ever_in_one_heath(self):
        self.same(picture_at(BOTH, GOING, FAR), (FAR, (FAR - 1, 2, FAR, 3, FAR - 2, None)))
        self.same(picture_at(BOTH, GOING, FAR + 1), (FAR + 1, (FAR - 1, 2, FAR, 3, FAR + 1, None)))
        self.same(picture_at(BOTH, begun(BOTH), FAR), (FAR, (None,) * 6))

    def test_parts_of_unlike_rounds(self):
        self.assertEqual([round_of(RINGS, WAVES, caller)[1] for caller in "ad"], [5, 7])
        now = WAVES
        for later in range(1, 90):
            now, _ = run(RINGS, now, 1)
            self.same(picture_at(RINGS, WAVES, 9 + later), now)
        self.same(picture_at(RINGS, WAVES, 9 + 35 * 10 ** 11), shifted(WAVES, 35 * 10 ** 11))
        self.same(picture_at(RINGS, WAVES, 9 + 5 * 10 ** 11)[1][:3], shifted(WAVES, 5 * 10 ** 11)[1][:3])

    def test_single_rings_come_round(self):
        for rest, beats, waves in ((3, [1, 1, 1], 1), (3, [1] * 8, 2), (13, [6] * 8, 3), (5, [2, 1, 2, 2], 1)):
            plan, picture = circling(rest, beats, waves)
            for rounds in (1, 7, FAR):
                by = rounds * sum(beats)
                self.same(picture_at(plan, picture, picture[0] + by), shifted(picture, by))

    def test_of_one_alone(self):
        self.same(picture_at(ALONE, (0, (0,)), FAR), (FAR, (0,)))
        self.same(picture_at(ALONE, (0, (None,)), FAR), (FAR, (None,)))

    def test_gone(self):
        for plan, picture in ((LINE, TWICE), (BOTH, GOING), (ALONE, (9, (3,)))):
            for beat in (picture[0] - 1, 0, 1, -1, -FAR):
                self.refused(Gone, beat, picture_at, plan, picture, beat)
        self.refused(Gone, 4, picture_at, beat=4, plan=LINE, picture=TWICE)
        self.refused(Gone, FAR - 1, picture_at, BOTH, shifted(GOING, FAR - 2), FAR - 1)
        self.assertEqual(Gone.__bases__, (ValueError,))

    def test_what_is_handed_in_stays(self):
        self.keeps(picture_at, LINE, TWICE, 9)
        self.keeps(picture_at, BOTH, GOING, FAR)


class CallsIn(Asking):
    def test_ordinary(self):
        # In all d calls in 6 and 11, b in 7, c in 9, e in 8 and 13.
        for caller, first, behind, due in (
            ("d", 6, 12, 2), ("d", 6, 11, 1), ("d", 7, 12, 1), ("d", 7, 11, 0), ("e", 0, 99, 2), ("c", 9, 10, 1),
            ("c", 8, 9, 0), ("c", 10, 99, 0), ("a", 0, 99, 0), ("b", 7, 8, 1),
        ):
            self.same(calls_in(LINE, TWICE, caller, first, behind), due)

    def test_by_name(self):
        self.same(calls_in(plan=LINE, picture=TWICE, caller="d", first=6, behind=12), 2)
        self.same(calls_in(behind=12, first=6, caller="d", picture=TWICE, plan=LINE), 2)

    def test_calls_that_were_are_none_of_them(self):
        for caller in LINE[1]:
            self.same(calls_in(LINE, TWICE, caller, 0, 6), 0)
            self.same(calls_in(LINE, TWICE, caller, -FAR, 6), 0)
        for caller in BOTH[1]:
            self.same(calls_in(BOTH, GOING, caller, 0, 3), 0)
        plan, picture = circling(3, [1] * 8, 2)
        for caller in plan[1]:
            self.same(calls_in(plan, picture, caller, 0, picture[0] + 1), 0)
            self.same(calls_in(plan, picture, caller, 0, picture[0] + 9), 2)
            self.same(calls_in(plan, picture, caller, picture[0] - 3, picture[0] + 9), 2)
            self.same(calls_in(plan, picture, caller, picture[0] + 1, picture[0] + 9), 2)

    def test_beside_run(self):
        for plan, picture, _ in (*scenes(50), *winding_scenes(50), *small_pictures()[::80]):
            beat = picture[0]
            _, calls = run(plan, picture, 60)
            for caller in plan[1]:
                mine = [call for call, one in calls if one == caller]
                for first in (beat - 2, beat, beat + 1, beat + 2, beat + 5, beat + 17, beat + 33):
                    for behind in (beat, beat + 1, beat + 2, beat + 3, beat + 9, beat + 18, beat + 40, beat + 61):
                        due = len([call for call in mine if first <= call < behind])
                        self.same(calls_in(plan, picture, caller, first, behind), due)

    def test_beat_by_beat(self):
        for plan, picture, _ in (*scenes(20), *winding_scenes(20)):
            _, calls = run(plan, picture, 100)
            for caller in plan[1]:
                for beat in range(picture[0] + 1, picture[0] + 101):
                    due = 1 if (beat, caller) in calls else 0
                    self.same(calls_in(plan, picture, caller, beat, beat + 1), due)

    def test_first_at_or_above_behind(self):
        for plan, picture in ((LINE, TWICE), (BOTH, GOING), circling(3, [1] * 8, 2)):
            for caller in plan[1]:
                for first, behind in ((9, 9), (10, 9), (FAR, 9), (FAR, FAR), (FAR, 0), (0, 0), (3, -3), (0, -FAR)):
                    self.same(calls_in(plan, picture, caller, first, behind), 0)

    def test_far_off(self):
        for plan, picture, field in (*scenes(40), *winding_scenes(60)):
            for caller in plan[1]:
                far = Far(field, caller)
                for first, behind in ((0, FAR), (FAR, FAR + 50), (FAR - 7, 4 * FAR + 1), (10 ** 30, 10 ** 30 + 31)):
                    due = far.till(caller, behind - 1) - far.till(caller, max(first - 1, picture[0]))
                    self.same(calls_in(plan, picture, caller, first, behind), due)

    def test_for_ever(self):
        for caller in "ace":
            self.same(calls_in(BOTH, GOING, caller, 3, 3 + 3 * FAR), FAR)
            self.same(calls_in(BOTH, GOING, caller, FAR, FAR + 3), 1)
        for caller, due in (("b", 0), ("d", 1), ("f", 0)):
            self.same(calls_in(BOTH, GOING, caller, 0, FAR), due)
            self.same(calls_in(BOTH, GOING, caller, FAR, 2 * FAR), 0)

    def test_all_that_are_to_come_are_as_many_as_the_height(self):
        for plan, picture, _ in scenes(80):
            for caller in plan[1]:
                told = heights(plan, picture, caller)
                if told is not None:
                    self.same(calls_in(plan, picture, caller, 0, FAR), dict(told)[caller])

    def test_from_far_beats(self):
        self.same(calls_in(LINE, shifted(TWICE, FAR), "d", FAR + 6, FAR + 12), 2)
        self.same(calls_in(LINE, shifted(TWICE, FAR), "d", 0, FAR + 6), 0)
        self.same(calls_in(BOTH, shifted(GOING, FAR), "a", 0, 2 * FAR + 3), (FAR + 2) // 3)

    def test_no_caller(self):
        for caller in ("heron", "", "u", "A"):
            for first, behind in ((0, 99), (9, 9), (9, 3), (0, 0), (-3, -2)):
                self.refused(NoCaller, caller, calls_in, LINE, TWICE, caller, first, behind)
                self.refused(NoCaller, caller, calls_in, BOTH, begun(BOTH), caller, first, behind)
        self.refused(NoCaller, "z", calls_in, caller="z", first=0, behind=0, plan=LINE, picture=TWICE)

    def test_what_is_handed_in_stays(self):
        self.keeps(calls_in, LINE, TWICE, "d", 6, 12)


class CallAt(Asking):
    def test_ordinary(self):
        for caller, due in (("a", []), ("b", [7]), ("c", [9]), ("d", [6, 11]), ("e", [8, 13])):
            for number, beat in enumerate(due, 1):
                self.same(call_at(LINE, TWICE, caller, number), beat)
            for more in (1, 2, 100, 10 ** 9):
                self.same(call_at(LINE, TWICE, caller, len(due) + more), None)

    def test_by_name(self):
        self.same(call_at(plan=LINE, picture=TWICE, caller="e", number=2), 13)
        self.same(call_at(number=2, caller="e", picture=TWICE, plan=LINE), 13)

    def test_for_ever(self):
        for caller, ahead in (("a", 0), ("c", 1), ("e", 2)):
            for number in (1, 2, 3, 50, 10 ** 9):
                self.same(call_at(BOTH, GOING, caller, number), 3 * number + ahead)
        for caller, due in (("b", None), ("d", 3), ("f", None)):
            self.same(call_at(BOTH, GOING, caller, 1), due)
            self.same(call_at(BOTH, GOING, caller, 2), None)

    def test_beside_run(self):
        for plan, picture, _ in (*scenes(100), *winding_scenes(100), *small_pictures()[::30]):
            _, calls = run(plan, picture, 200)
            for caller in plan[1]:
                mine = [beat for beat, one in calls if one == caller]
                for number, beat in enumerate(mine, 1):
                    self.same(call_at(plan, picture, caller, number), beat)
                if heights(plan, picture, caller) is not None:
                    self.same(call_at(plan, picture, caller, len(mine) + 1), None)

    def test_far_off(self):
        for plan, picture, field in winding_scenes(60):
            for caller in plan[1]:
                far = Far(field, caller)
                for number in (100, 101, 102, 10 ** 6 + 1, 10 ** 9 - 1, 10 ** 9, 10 ** 15 + 3):
                    self.same(call_at(plan, picture, caller, number), far.call(caller, number))

    def test_beside_calls_in(self):
        for plan, picture, _ in winding_scenes(40):
            for caller in plan[1]:
                for number in (1, 2, 3, 10 ** 9):
                    beat = call_at(plan, picture, caller, number)
                    self.same(calls_in(plan, picture, caller, 0, beat), number - 1)
                    self.same(calls_in(plan, picture, caller, 0, beat + 1), number)
                    self.assertEqual(picture_at(plan, picture, beat)[1][plan[1].index(caller)], beat)

    def test_from_far_beats(self):
        self.same(call_at(LINE, shifted(TWICE, FAR), "e", 2), FAR + 13)
        self.same(call_at(BOTH, shifted(GOING, FAR), "c", 10 ** 9), FAR + 3 * 10 ** 9 + 1)

    def test_of_a_still_picture(self):
        for caller in BOTH[1]:
            self.same(call_at(BOTH, begun(BOTH), caller, 1), None)
        self.same(call_at(ALONE, (0, (0,)), "ash", 1), None)

    def test_no_caller(self):
        for caller in ("heron", "", "u", "A"):
            for number in (1, 2, 10 ** 9):
                self.refused(NoCaller, caller, call_at, LINE, TWICE, caller, number)
                self.refused(NoCaller, caller, call_at, BOTH, begun(BOTH), caller, number)
        self.refused(NoCaller, "z", call_at, caller="z", number=1, plan=LINE, picture=TWICE)
        self.assertEqual(NoCaller.__bases__, (LookupError,))

    def test_what_is_handed_in_stays(self):
        self.keeps(call_at, LINE, TWICE, "d", 2)
        self.keeps(call_at, BOTH, GOING, "a", 9)


class Late(Asking):
    def test_till_all_comes_round_and_behind(self):
        field = Field.of(LATE, SLOW)
        calls = []
        for _ in range(30):
            self.same(picture_at(LATE, SLOW, field.beat), field.picture())
            calls.extend(field.go(31))
        for caller in LATE[1]:
            mine = [beat for beat, one in calls if one == caller]
            for number, beat in enumerate(mine, 1):
                if number % 3 == 0:
                    self.same(call_at(LATE, SLOW, caller, number), beat)
            for first, behind in ((101, 700), (300, 757), (755, 757), (640, 900), (756, 1030)):
                due = len([beat for beat in mine if first <= beat < behind])
                self.same(calls_in(LATE, SLOW, caller, first, behind), due)

    def test_far_off(self):
        field = Field.of(LATE, SLOW)
        self.same(picture_at(LATE, SLOW, FAR), far_picture(field, FAR))
        for caller in LATE[1]:
            far = Far(field, caller)
            self.same(call_at(LATE, SLOW, caller, 10 ** 9), far.call(caller, 10 ** 9))
            self.same(calls_in(LATE, SLOW, caller, 400, FAR), far.till(caller, FAR - 1) - far.till(caller, 399))


class Here(Asking):
    def test_the_pictures_here_are_pictures(self):
        for plan, picture in ((BOTH, GOING), (LINE, TWICE), (RINGS, WAVES)):
            self.assertIs(is_picture(plan, picture), True)

    def test_two_heaths_are_told_apart(self):
        for _ in range(2):
            self.same(call_at(BOTH, GOING, "a", 5), 15)
            self.same(call_at(BOTH, begun(BOTH), "a", 5), None)
            self.same(picture_at(BOTH, GOING, 5), (5, (3, 2, 4, 3, 5, None)))
            self.same(picture_at(BOTH, begun(BOTH), 5), (5, (None,) * 6))

    def test_call_by_call_as_a_field_has_it(self):
        for plan, picture, _ in (*scenes(30), *winding_scenes(30)):
            field = Field.of(plan, picture)
            calls = field.go(150)
            self.same(picture_at(plan, picture, picture[0] + 150), field.picture())
            for caller in plan[1]:
                due = len([beat for beat, one in calls if one == caller])
                self.same(calls_in(plan, picture, caller, 0, picture[0] + 151), due)

    def test_each_is_made_in_its_own_file(self):
        for made in (picture_at, calls_in, call_at):
            self.assertEqual(made.__module__, "hoarseheath.leaps")
