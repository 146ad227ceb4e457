from hoarseheath.beats import run
from hoarseheath.coming import coming, last_call, still_from, to_come
from hoarseheath.errors import Endless, NoCaller
from hoarseheath.heights import heights
from hoarseheath.pictures import begun, is_picture, on_ways
from tests.heaths import Asking, Field, circling, scenes, shifted, small_pictures

HEATH = (
    13,
    ("ash", "birch", "elm", "fir", "gorse", "oak"),
    (
        ("brook", "ash", "oak", 6),
        ("ditch", "birch", "fir", 4),
        ("lane", "ash", "elm", 2),
        ("path", "elm", "oak", 3),
        ("track", "birch", "fir", 1),
    ),
)
ASH = (0, (0, None, None, None, None, None))
# A ring round which a call goes on for ever, and beside it a part that gets quiet and one alone.
BOTH = (
    3,
    ("a", "b", "c", "d", "e", "f"),
    (("u", "a", "c", 1), ("v", "c", "e", 1), ("w", "a", "e", 1), ("x", "b", "d", 1), ("y", "b", "d", 1)),
)
GOING = (2, (0, 2, 1, None, 2, None))
LINE = (5, ("a", "b", "c", "d", "e"), tuple((name, one, other, 2) for name, one, other in zip("uvwx", "abcd", "bcde")))
TWICE = (5, (5, 2, 4, None, None))
STEPS = list(zip("nopqrst", "abcdefg", "bcdefgh"))
EIGHT = (13, tuple("abcdefgh"), tuple((name, one, other, 6) for name, one, other in STEPS))
ALONE = (3, ("ash",), ())
FAR = 10 ** 12


class ToCome(Asking):
    def test_ordinary(self):
        for caller, due in (("ash", 0), ("elm", 1), ("oak", 1), ("birch", 0), ("fir", 0), ("gorse", 0)):
            self.same(to_come(HEATH, ASH, caller), due)
            self.same(to_come(HEATH, begun(HEATH), caller), 0)
        for caller, due in zip("abcde", (0, 1, 1, 2, 2)):
            self.same(to_come(LINE, TWICE, caller), due)

    def test_by_name(self):
        self.same(to_come(plan=HEATH, picture=ASH, caller="oak"), 1)

    def test_what_never_ends(self):
        for caller in "ace":
            self.same(to_come(BOTH, GOING, caller), None)
        for caller, due in (("b", 0), ("d", 1), ("f", 0)):
            self.same(to_come(BOTH, GOING, caller), due)

    def test_a_caller_alone(self):
        for picture in ((0, (None,)), (0, (0,)), (9, (8,))):
            self.same(to_come(ALONE, picture, "ash"), 0)

    def test_behind_deeds(self):
        for plan, picture, field in (*scenes(400), *small_pictures()[::2]):
            for caller in plan[1]:
                calls = field.to_come(caller)
                due = None if calls is None else len([pair for pair in calls if pair[1] == caller])
                self.same(to_come(plan, picture, caller), due)

    def test_as_many_as_its_height(self):
        for plan, picture, _ in scenes(100):
            for caller in plan[1]:
                told = heights(plan, picture, caller)
                self.same(to_come(plan, picture, caller), None if told is None else dict(told)[caller])

    def test_far_beats(self):
        self.same(to_come(LINE, shifted(TWICE, FAR), "d"), 2)
        self.same(to_come(BOTH, shifted(GOING, FAR), "c"), None)

    def test_no_caller(self):
        for caller in ("heron", "", "lane", "ASH"):
            self.refused(NoCaller, caller, to_come, HEATH, ASH, caller)
        self.refused(NoCaller, "g", to_come, caller="g", plan=BOTH, picture=GOING)

    def test_what_is_handed_in_stays(self):
        self.keeps(to_come, LINE, TWICE, "d")


class Coming(Asking):
    def test_ordinary(self):
        for caller in ("ash", "elm", "oak"):
            self.same(coming(HEATH, ASH, caller), [(2, "elm"), (5, "oak")])
        for caller in ("birch", "fir", "gorse"):
            self.same(coming(HEATH, ASH, caller), [])

    def test_by_name(self):
        self.same(coming(plan=HEATH, picture=ASH, caller="oak"), [(2, "elm"), (5, "oak")])

    def test_nothing_is_to_come(self):
        self.same(coming(HEATH, begun(HEATH), "ash"), [])
        self.same(coming(HEATH, (5, (0, None, 2, None, None, 5)), "ash"), [])
        self.same(coming(ALONE, (0, (0,)), "ash"), [])

    def test_of_its_own_part_alone(self):
        picture = (0, (0, None, None, 0, None, None))
        self.same(coming(HEATH, picture, "elm"), [(2, "elm"), (5, "oak")])
        self.same(coming(HEATH, picture, "birch"), [(1, "birch")])
        self.same(coming(HEATH, picture, "gorse"), [])

    def test_what_never_ends(self):
        for caller in "ace":
            self.same(coming(BOTH, GOING, caller), None)
        for caller in "bd":
            self.same(coming(BOTH, GOING, caller), [(3, "d")])
        self.same(coming(BOTH, GOING, "f"), [])

    def test_waves_that_meet(self):
        for caller in LINE[1]:
            self.same(coming(LINE, (0, (0, None, None, None, 0)), caller), [(2, "b"), (2, "d"), (4, "c")])
            self.same(coming(LINE, (1, (0, None, None, None, 1)), caller), [(2, "b"), (3, "d"), (4, "c")])

    def test_second_waves(self):
        due = [(6, "d"), (7, "b"), (8, "e"), (9, "c"), (11, "d"), (13, "e")]
        self.same(coming(LINE, TWICE, "a"), due)
        self.same(coming(LINE, TWICE, "e"), due)

    def test_lines_of_eight(self):
        due = [(6 * at, caller) for at, caller in enumerate("bcdefgh", 1)]
        self.same(coming(EIGHT, (0, (0,) + (None,) * 7), "h"), due)
        due = [(6 * at, caller) for at, caller in enumerate("gfedcba", 1)]
        self.same(coming(EIGHT, (0, (None,) * 7 + (0,)), "d"), due)
        # Four waves from one end, as close as they may run: each is free just as it hears.
        plan = (3, EIGHT[1], tuple((name, one, other, 1) for name, one, other in STEPS))
        picture = (9, (9, 7, 8, 9, 7, 8, 9, 7))
        self.assertIs(is_picture(plan, picture), True)
        due = [(10, "b"), (10, "e"), (10, "h"), (11, "c"), (11, "f"), (12, "d"), (12, "g")]
        due += [(13, "e"), (13, "h"), (14, "f"), (15, "g"), (16, "h")]
        for caller in plan[1]:
            self.same(coming(plan, picture, caller), due)

    def test_two_in_one_beat_rise_by_caller(self):
        plan = (5, ("a", "b", "c"), (("u", "a", "c", 1), ("v", "b", "c", 1)))
        self.same(coming(plan, (0, (None, None, 0)), "b"), [(1, "a"), (1, "b")])
        plan = (9, ("a", "b", "c"), (("u", "a", "c", 4), ("v", "b", "c", 1)))
        self.same(coming(plan, (0, (None, None, 0)), "b"), [(1, "b"), (4, "a")])

    def test_behind_deeds(self):
        for plan, picture, field in (*scenes(400), *small_pictures()[::2]):
            for caller in plan[1]:
                self.same(coming(plan, picture, caller), field.to_come(caller))

    def test_the_same_as_beat_by_beat(self):
        for plan, picture, field in scenes(200):
            _, calls = run(plan, picture, 60)
            for caller in plan[1]:
                told = coming(plan, picture, caller)
                if told is not None:
                    self.same(told, [pair for pair in calls if pair[1] in field.part(caller)])

    def test_what_is_left_behind_some_beats(self):
        for plan, picture, _ in scenes(100):
            for beats in (1, 3, 8):
                later, _ = run(plan, picture, beats)
                for caller in plan[1]:
                    told = coming(plan, picture, caller)
                    due = None if told is None else [pair for pair in told if pair[0] > picture[0] + beats]
                    self.same(coming(plan, later, caller), due)

    def test_far_beats(self):
        due = [(FAR + 2, "elm"), (FAR + 5, "oak")]
        self.same(coming(HEATH, shifted(ASH, FAR), "oak"), due)
        self.same(coming(EIGHT, (FAR, (FAR,) + (None,) * 7), "a")[-1], (FAR + 42, "h"))

    def test_kinds(self):
        told = coming(HEATH, ASH, "ash")
        self.assertEqual((type(told), type(told[0]), type(told[1])), (list, tuple, tuple))

    def test_no_caller(self):
        for caller in ("heron", "", "lane", "ASH"):
            self.refused(NoCaller, caller, coming, HEATH, ASH, caller)
        self.refused(NoCaller, "g", coming, caller="g", plan=BOTH, picture=GOING)

    def test_what_is_handed_in_stays(self):
        self.keeps(coming, LINE, TWICE, "d")
        self.keeps(coming, HEATH, begun(HEATH), "ash")
        self.keeps(coming, BOTH, GOING, "a")


def last_of(field):
    """The last call of a field in which all gets quiet, counted call by call."""
    calls = [beat for caller in field.called for beat, _ in field.to_come(caller)]
    return max(calls + [beat for row in field.called.values() for beat in row], default=None)


def still_of(plan, field):
    """The beat by which all calls of a field in which all gets quiet have been heard."""
    ahead = Field.of(plan, field.picture())
    while ahead.flying:
        ahead.go()
    return ahead.beat


class LastCall(Asking):
    def test_ordinary(self):
        self.same(last_call(HEATH, ASH), 5)
        self.same(last_call(LINE, TWICE), 13)
        self.same(last_call(plan=EIGHT, picture=(0, (0,) + (None,) * 7)), 42)

    def test_where_none_is_to_come(self):
        self.same(last_call(HEATH, (5, (0, None, 2, None, None, 5))), 5)
        self.same(last_call(HEATH, (50, (0, None, 2, None, None, 5))), 5)
        self.same(last_call(ALONE, (9, (8,))), 8)
        self.same(last_call(ALONE, (0, (0,))), 0)
        self.same(last_call((5, ("a", "b", "c"), ()), (9, (3, 7, None))), 7)

    def test_where_there_never_was_one(self):
        self.same(last_call(HEATH, begun(HEATH)), None)
        self.same(last_call(HEATH, (70, (None,) * 6)), None)
        self.same(last_call(ALONE, (3, (None,))), None)

    def test_of_all_parts(self):
        picture = (0, (0, 0, None, None, 0, None))
        self.same(last_call(HEATH, picture), 5)
        plan = (13, ("a", "b", "c", "d"), (("u", "a", "b", 1), ("v", "c", "d", 6)))
        self.same(last_call(plan, (0, (0, None, 0, None))), 6)
        self.same(last_call(plan, (0, (0, None, None, None))), 1)
        self.same(last_call(plan, (3, (0, 1, None, None))), 1)
        # A call that was, of one alone, is nothing beside those to come.
        self.same(last_call((13, ("a", "b", "c"), (("u", "a", "b", 1),)), (3, (3, None, 3))), 4)

    def test_behind_deeds(self):
        for plan, picture, field in (*scenes(400), *small_pictures()[::3]):
            endless = [caller for caller in plan[1] if field.to_come(caller) is None]
            if endless:
                self.refused(Endless, endless[0], last_call, plan, picture)
            else:
                self.same(last_call(plan, picture), last_of(Field.of(plan, picture)))

    def test_endless(self):
        self.refused(Endless, "a", last_call, BOTH, GOING)
        self.refused(Endless, "a", last_call, picture=GOING, plan=BOTH)
        self.assertEqual(Endless.__bases__, (OverflowError,))

    def test_far_beats(self):
        self.same(last_call(HEATH, shifted(ASH, FAR)), FAR + 5)
        self.same(last_call(HEATH, (FAR, (None,) * 6)), None)
        self.same(last_call(ALONE, (FAR, (3,))), 3)
        self.refused(Endless, "a", last_call, BOTH, shifted(GOING, FAR))

    def test_what_is_handed_in_stays(self):
        self.keeps(last_call, LINE, TWICE)


class StillFrom(Asking):
    def test_ordinary(self):
        self.same(still_from(HEATH, ASH), 11)
        self.same(still_from(LINE, TWICE), 15)
        self.same(still_from(plan=EIGHT, picture=(0, (0,) + (None,) * 7)), 48)

    def test_of_a_still_picture(self):
        self.same(still_from(HEATH, begun(HEATH)), 0)
        self.same(still_from(HEATH, (70, (None,) * 6)), 70)
        self.same(still_from(HEATH, (11, (0, None, 2, None, None, 5))), 11)
        self.same(still_from(HEATH, (12, (0, None, 2, None, None, 5))), 12)
        self.same(still_from(ALONE, (9, (9,))), 9)

    def test_where_all_that_is_on_its_way_finds_hoarse_ones(self):
        self.same(still_from(HEATH, (5, (0, None, 2, None, None, 5))), 11)
        self.same(still_from(HEATH, (10, (0, None, 2, None, None, 5))), 11)
        plan = (7, ("a", "b"), (("u", "a", "b", 3), ("v", "a", "b", 1)))
        self.same(still_from(plan, (4, (4, 4))), 7)

    def test_of_all_parts(self):
        plan = (13, ("a", "b", "c", "d"), (("u", "a", "b", 1), ("v", "c", "d", 6)))
        self.same(still_from(plan, (0, (0, None, None, None))), 2)
        self.same(still_from(plan, (0, (0, None, 0, None))), 12)
        # The last call of all isn't always the last to be heard.
        self.same(still_from(plan, (3, (3, None, None, 0))), 12)
        plan = (13, ("a", "b", "c", "d"), (("u", "a", "b", 6), ("v", "c", "d", 1)))
        picture = (7, (0, 6, 7, None))
        self.same((last_call(plan, picture), still_from(plan, picture)), (8, 12))

    def test_behind_deeds(self):
        for plan, picture, field in (*scenes(400), *small_pictures()[::3]):
            endless = [caller for caller in plan[1] if field.to_come(caller) is None]
            if endless:
                self.refused(Endless, endless[0], still_from, plan, picture)
            else:
                self.same(still_from(plan, picture), still_of(plan, field))

    def test_the_first_beat_in_which_nothing_is_on_its_way(self):
        for plan, picture, field in scenes(150):
            if None in [field.to_come(caller) for caller in plan[1]]:
                continue
            beats = still_from(plan, picture) - picture[0]
            self.same(on_ways(plan, run(plan, picture, beats)[0]), [])
            self.same(on_ways(plan, run(plan, picture, beats + 9)[0]), [])
            for ahead in range(beats):
                self.assertNotEqual(on_ways(plan, run(plan, picture, ahead)[0]), [])

    def test_endless(self):
        self.refused(Endless, "a", still_from, BOTH, GOING)
        self.refused(Endless, "a", still_from, picture=GOING, plan=BOTH)

    def test_far_beats(self):
        self.same(still_from(HEATH, shifted(ASH, FAR)), FAR + 11)
        self.same(still_from(HEATH, (FAR, (None,) * 6)), FAR)
        self.same(still_from(HEATH, (FAR, (0, None, 2, None, None, 5))), FAR)

    def test_what_is_handed_in_stays(self):
        self.keeps(still_from, LINE, TWICE)


class First(Asking):
    def test_endless_of_the_first_caller_whose_calls_never_end(self):
        ring = circling(3, [1, 1, 1], 1)
        _, (beat, (one, two, three)) = ring
        for row in ("abc", "bcd", "bef", "cde", "fgh"):
            ways = (("u", row[0], row[1], 1), ("v", row[1], row[2], 1), ("w", row[0], row[2], 1))
            plan = (3, tuple("abcdefgh"), ways)
            due = dict(zip(row, (one, two, three)))
            picture = (beat, tuple(due.get(caller) for caller in plan[1]))
            for ask in (last_call, still_from):
                self.refused(Endless, row[0], ask, plan, picture)

    def test_endless_of_the_first_of_several_parts(self):
        ways = (
            ("u", "b", "d", 1), ("v", "d", "h", 1), ("w", "b", "h", 1),
            ("x", "c", "e", 1), ("y", "e", "f", 1), ("z", "c", "f", 1),
        )
        plan = (3, tuple("abcdefgh"), ways)
        due = dict(zip("bdhcef", (0, 1, 2, 0, 1, 2)))
        for ask in (last_call, still_from):
            for quiet, first in (("", "b"), ("bdh", "c"), ("cef", "b")):
                lasts = tuple(None if caller in quiet else due.get(caller) for caller in plan[1])
                self.refused(Endless, first, ask, plan, (2, lasts))
            self.same(ask(plan, (2, (None,) * 8)), None if ask is last_call else 2)

    def test_endless_though_calls_were_and_are_to_come_elsewhere(self):
        for ask in (last_call, still_from):
            self.refused(Endless, "a", ask, BOTH, GOING)
            self.refused(Endless, "a", ask, BOTH, (2, (0, None, 1, None, 2, 1)))

    def test_no_caller_goes_ahead_of_what_never_ends(self):
        for ask in (to_come, coming):
            self.refused(NoCaller, "heron", ask, BOTH, GOING, "heron")
            self.refused(NoCaller, "", ask, BOTH, GOING, "")
        self.assertEqual(NoCaller.__bases__, (LookupError,))

    def test_two_heaths_are_told_apart(self):
        for _ in range(2):
            self.same(coming(LINE, TWICE, "a")[:2], [(6, "d"), (7, "b")])
            self.same(coming(LINE, begun(LINE), "a"), [])
            self.same(last_call(LINE, begun(LINE)), None)
            self.refused(Endless, "a", last_call, BOTH, GOING)
            self.same(last_call(BOTH, begun(BOTH)), None)

    def test_each_is_made_in_its_own_file(self):
        for made in (to_come, coming, last_call, still_from):
            self.assertEqual(made.__module__, "hoarseheath.coming")
