import itertools

from hoarseheath.pictures import begun, free_beats, is_picture, on_ways, owed
from hoarseheath.plans import is_plan
from tests.heaths import ANY, Asking, Field, otherwise, right_picture, scenes, shifted, small_pictures, twice_otherwise

HEATH = (
    13,
    ("ash", "elm", "fir", "oak"),
    (("brook", "ash", "oak", 6), ("lane", "ash", "elm", 2), ("path", "elm", "oak", 3)),
)
# Behind a hand's call of ash in beat 0: elm called by lane, then oak by path.
CALLED = (5, (0, 2, None, 5))
ALONE = (3, ("ash",), ())
NO_WAYS = (5, ("a", "b", "c", "d"), ())
FAR = 10 ** 12


def two(rest, *beats):
    """The plan of two callers with a way of each of these beats."""
    return (rest, ("a", "b"), tuple((name, "a", "b", many) for name, many in zip("uvwxyz", beats)))


class IsPicture(Asking):
    def yes(self, plan, thing):
        with self.subTest(plan=plan, thing=thing):
            self.assertIs(is_picture(plan, thing), True)

    def no(self, plan, thing):
        with self.subTest(plan=plan, thing=thing):
            self.assertIs(is_picture(plan, thing), False)

    def either(self, due, plan, beat, one, other):
        """Of two callers, either way about."""
        for lasts in ((one, other), (other, one)):
            (self.yes if due else self.no)(plan, (beat, lasts))

    def test_ordinary(self):
        self.yes(HEATH, CALLED)
        self.yes(HEATH, (0, (0, None, None, None)))
        self.yes(HEATH, (2, (0, 2, None, None)))
        self.yes(HEATH, (0, (None, None, None, None)))
        self.yes(HEATH, (100, (None, None, None, None)))

    def test_by_name(self):
        self.assertIs(is_picture(plan=HEATH, thing=CALLED), True)
        self.assertIs(is_picture(thing=None, plan=HEATH), False)

    def test_pictures_behind_deeds(self):
        for plan, picture, _ in scenes(400):
            self.yes(plan, picture)
            self.yes(plan, shifted(picture, FAR - picture[0]))
            self.yes(plan, shifted(picture, 10 ** 40))

    def test_pictures_behind_beats_and_hands_calls(self):
        for plan, picture, _ in scenes(60):
            field = Field.of(plan, picture)
            for beat in range(40):
                field.go()
                self.yes(plan, field.picture())
                caller = plan[1][beat // 3 % len(plan[1])]
                if field.may_call(caller):
                    field.call(caller)
                    self.yes(plan, field.picture())

    def test_every_last_of_two(self):
        for beats in ((1,), (2,), (3,), (1, 3), (2, 1), (3, 3)):
            for rest in range(2 * max(beats) + 1, 2 * max(beats) + 4):
                plan = two(rest, *beats)
                for beat in (0, 1, rest - 1, rest + 2):
                    for lasts in itertools.product((None, *range(-1, beat + 2)), repeat=2):
                        thing = (beat, lasts)
                        self.assertIs(is_picture(plan, thing), right_picture(plan, thing), (plan, thing))

    def test_every_last_of_three(self):
        for ways in (
            (("u", "a", "b", 1), ("v", "b", "c", 2)),
            (("u", "a", "b", 1), ("v", "b", "c", 2), ("w", "a", "c", 2)),
        ):
            plan = (5, ("a", "b", "c"), ways)
            for beat in (3, 8):
                for lasts in itertools.product((None, *range(-1, beat + 2)), repeat=3):
                    thing = (beat, lasts)
                    self.assertIs(is_picture(plan, thing), right_picture(plan, thing), (plan, thing))

    def test_last_call_at_the_beat_behind_it_and_below_0(self):
        for beat in (0, 1, 5, FAR):
            self.yes(ALONE, (beat, (beat,)))
            self.no(ALONE, (beat, (beat + 1,)))
            self.yes(ALONE, (beat, (0,)))
            self.no(ALONE, (beat, (-1,)))
            self.no(ALONE, (beat, (-beat - 1,)))
            self.yes(ALONE, (beat, (None,)))

    def test_each_last_keeps_its_bounds(self):
        for at in range(4):
            for wrong in (-1, 8, True, False, "3", (3,), [3]):
                lasts = [None, 0, 3, 7]
                self.yes(NO_WAYS, (7, tuple(lasts)))
                lasts[at] = wrong
                self.no(NO_WAYS, (7, tuple(lasts)))

    def test_beat_below_0(self):
        self.yes(ALONE, (0, (None,)))
        for beat in (-1, -2, -FAR):
            self.no(ALONE, (beat, (None,)))
            self.no(ALONE, (beat, (beat,)))

    def test_nobody_owes_and_free_beats_are_apart(self):
        plan = two(7, 2)
        # Free at 10 the one; at 12, 13 and 14 the other.
        for one in (None, 0, 3):
            self.either(True, plan, 10, one, 4)
            self.either(True, plan, 10, one, 5)
            self.either(False, plan, 10, one, 6)
            self.either(False, plan, 10, one, 7)
        # Free at 11 the one; at 13 and 14 the other.
        self.either(True, plan, 10, 4, 6)
        self.either(False, plan, 10, 4, 7)
        self.either(True, plan, 10, 5, 7)
        self.either(False, plan, 10, 5, 8)

    def test_nobody_owes_though_a_call_is_on_its_way(self):
        plan = two(7, 2)
        # Who called as many beats ahead as the way has, or fewer, doesn't owe.
        for other in (8, 9, 10):
            self.either(True, plan, 10, 10, other)
        for other in (7, 8, 9):
            self.either(True, plan, 10, 9, other)
        self.either(False, plan, 10, 10, 7)
        self.either(False, plan, 10, 9, 6)

    def test_one_owes_and_is_free_just_when_it_will_hear(self):
        plan = two(7, 2)
        for other in (None, 0, 4, 5):
            self.either(True, plan, 10, 10, other)
        for other in (6, 7):
            self.either(False, plan, 10, 10, other)
        for other in (None, 0, 3, 4):
            self.either(True, plan, 10, 9, other)
        for other in (5, 6):
            self.either(False, plan, 10, 9, other)

    def test_each_beats_and_rest_at_their_bounds(self):
        for beats in range(1, 7):
            for rest in range(2 * beats + 1, 25):
                plan = two(rest, beats)
                self.either(True, plan, 40, 40, 40 + beats - rest)
                self.either(rest == 2 * beats + 1, plan, 40, 40, 40 + beats - rest + 1)
                self.either(True, plan, 40, 40, 40 - beats)
                self.either(rest == 2 * beats + 1, plan, 40, 40, 40 - beats - 1)
                self.either(True, plan, 40, None, 40 + beats - rest)
                self.either(False, plan, 40, None, 40 + beats - rest + 1)
                self.either(True, plan, 40, 40 + 1 - rest, 40 + beats - rest + 1)

    def test_a_call_just_heard_is_not_on_its_way(self):
        plan = two(9, 3)
        # In beat 7 the call of beat 4 has been heard: nobody owes, and 13 is too far from 7.
        self.either(True, plan, 6, 4, None)
        self.either(False, plan, 7, 4, None)

    def test_several_ways_between_two(self):
        self.either(True, two(7, 1, 3), 10, 10, 4)
        self.either(False, two(7, 1, 3), 10, 10, 5)
        self.either(False, two(7, 3, 1), 10, 10, 5)
        self.either(True, two(7, 3), 10, 10, 5)
        self.either(True, two(7, 3, 3, 3), 10, 10, 5)
        self.either(False, two(7, 3, 3, 1), 10, 10, 5)
        self.either(False, two(7, 3, 1, 3), 10, 10, 5)
        self.either(True, two(7, 1, 3), 10, 10, 9)
        self.either(False, two(7, 1, 3), 10, 10, 8)
        self.either(True, two(7, 3), 10, 10, 8)
        # By the long way the call is on its way still, by the short one it was heard.
        self.either(False, two(7, 1, 3), 10, 8, None)
        self.either(True, two(7, 3), 10, 8, None)

    def test_one_way_of_many_out_of_step(self):
        plan = (7, ("a", "b", "c", "d"), (("u", "a", "b", 2), ("v", "b", "c", 2), ("w", "c", "d", 2)))
        self.yes(plan, (10, (None, None, None, None)))
        self.yes(plan, (10, (5, 5, 5, 5)))
        self.no(plan, (10, (6, None, None, None)))
        self.no(plan, (10, (6, 6, None, None)))
        self.no(plan, (10, (None, None, None, 6)))
        self.yes(plan, (10, (6, 5, 6, 5)))

    def test_lasts_too_few_and_too_many(self):
        for many in range(8):
            thing = (3, (None,) * many)
            (self.yes if many == 4 else self.no)(HEATH, thing)
        self.no(ALONE, (3, ()))
        self.no(ALONE, (3, (1, 2)))
        self.no(NO_WAYS, (3, (1, 1, 1)))
        self.no(NO_WAYS, (3, (1, 1, 1, 1, 1)))

    def test_lists_where_tuples_belong(self):
        beat, lasts = CALLED
        self.no(HEATH, [beat, lasts])
        self.no(HEATH, (beat, list(lasts)))
        self.no(HEATH, [beat, list(lasts)])
        self.no(HEATH, (beat, (lasts,)))
        self.no(HEATH, ((beat,), lasts))

    def test_too_short_and_too_long(self):
        beat, lasts = CALLED
        for thing in ((), (beat,), (lasts,), (lasts, beat), (beat, lasts, None), (beat, lasts, ()), (beat, *lasts)):
            self.no(HEATH, thing)

    def test_true_and_false_are_no_numbers(self):
        self.no(ALONE, (True, (None,)))
        self.no(ALONE, (False, (None,)))
        self.no(ALONE, (1, (True,)))
        self.no(ALONE, (1, (False,)))
        self.no(ALONE, (True, (True,)))
        self.yes(ALONE, (1, (1,)))
        self.yes(ALONE, (1, (0,)))

    def test_things_of_any_make(self):
        for plan in (HEATH, ALONE, NO_WAYS, two(7, 2)):
            for thing in ANY:
                self.assertIs(is_picture(plan, thing), right_picture(plan, thing), (plan, thing))
            for inner in ANY:
                for thing in ((5, inner), (inner, (None,) * len(plan[1])), (5, (inner,) * len(plan[1]))):
                    self.assertIs(is_picture(plan, thing), right_picture(plan, thing), (plan, thing))
        for thing in ANY:
            self.no(HEATH, thing)
            self.no(HEATH, (5, thing))

    def test_a_thing_of_any_make_in_the_place_of_one_last(self):
        for at in range(4):
            for inner in ANY:
                lasts = [None, 1, 2, None]
                lasts[at] = inner
                thing = (2, tuple(lasts))
                self.assertIs(is_picture(NO_WAYS, thing), right_picture(NO_WAYS, thing), thing)

    def test_one_or_two_things_otherwise(self):
        for plan, picture in ((HEATH, CALLED), (ALONE, (1, (1,))), (ALONE, (0, (0,))), (two(7, 1, 3), (10, (10, 4)))):
            for thing in otherwise(picture) + twice_otherwise(picture, 300):
                self.assertIs(is_picture(plan, thing), right_picture(plan, thing), (plan, thing))
        for plan, picture, _ in scenes(40):
            for thing in otherwise(picture):
                self.assertIs(is_picture(plan, thing), right_picture(plan, thing), (plan, thing))

    def test_far_beats(self):
        plan = two(7, 2)
        self.either(True, plan, FAR, FAR, FAR - 5)
        self.either(False, plan, FAR, FAR, FAR - 4)
        self.either(True, plan, FAR, None, FAR - 5)
        self.either(False, plan, FAR, None, FAR - 4)
        self.either(True, plan, FAR, 0, FAR - 5)
        self.either(False, plan, FAR, 0, FAR - 4)
        self.either(True, plan, FAR, 0, None)
        self.either(False, plan, FAR, 0, FAR + 1)
        self.either(False, plan, FAR, -1, None)

    def test_of_one_plan_and_not_of_another(self):
        self.yes(two(5, 2), (10, (10, 7)))
        self.no(two(6, 2), (10, (10, 7)))
        self.no(two(5, 1), (10, (10, 7)))
        self.yes(two(5), (10, (10, 7)))
        self.yes(two(5, 2), (10, (10, 7)))

    def test_what_is_handed_in_stays(self):
        for thing in (CALLED, list(CALLED), (5, [0, 2, None, 5]), [[5], (0, [2])], None):
            self.keeps(is_picture, HEATH, thing)


class Begun(Asking):
    def test_ordinary(self):
        self.same(begun(HEATH), (0, (None, None, None, None)))
        self.same(begun(ALONE), (0, (None,)))
        self.same(begun(plan=NO_WAYS), (0, (None, None, None, None)))

    def test_one_for_each_caller(self):
        for many in range(1, 9):
            self.same(begun((3, tuple("abcdefgh"[:many]), ())), (0, (None,) * many))

    def test_it_is_a_picture(self):
        for plan, _, _ in scenes(100):
            self.same(begun(plan), (0, (None,) * len(plan[1])))
            self.assertIs(is_picture(plan, begun(plan)), True)

    def test_what_is_handed_in_stays(self):
        self.keeps(begun, HEATH)


class FreeBeats(Asking):
    def test_ordinary(self):
        self.same(free_beats(HEATH, CALLED), [13, 15, 5, 18])
        self.same(free_beats(plan=HEATH, picture=begun(HEATH)), [0, 0, 0, 0])

    def test_never_just_now_and_long_ago(self):
        self.same(free_beats(NO_WAYS, (20, (None, 20, 0, 19))), [20, 25, 20, 24])
        self.same(free_beats(NO_WAYS, (20, (14, 15, 16, 17))), [20, 20, 21, 22])
        self.same(free_beats(ALONE, (0, (0,))), [3])
        self.same(free_beats(ALONE, (7, (None,))), [7])

    def test_callers_as_in_the_plan(self):
        plan = (3, ("a", "b", "c"), ())
        self.same(free_beats(plan, (9, (9, 7, 8))), [12, 10, 11])

    def test_each_rest(self):
        for rest in range(3, 25):
            for last in range(41):
                self.same(free_beats((rest, ("a",), ()), (40, (last,))), [max(40, last + rest)])

    def test_far_beats(self):
        self.same(free_beats(NO_WAYS, (FAR, (None, FAR, FAR - 4, FAR - 5))), [FAR, FAR + 5, FAR + 1, FAR])

    def test_behind_deeds(self):
        for plan, picture, field in scenes(300):
            self.same(free_beats(plan, picture), [field.free(caller) for caller in plan[1]])

    def test_what_is_handed_in_stays(self):
        self.keeps(free_beats, HEATH, CALLED)
        self.keeps(free_beats, ALONE, begun(ALONE))


class OnWays(Asking):
    def test_ordinary(self):
        self.same(on_ways(HEATH, (0, (0, None, None, None))), [(2, "elm", "lane"), (6, "oak", "brook")])
        due = [(4, "ash", "lane"), (5, "oak", "path"), (6, "oak", "brook")]
        self.same(on_ways(HEATH, (2, (0, 2, None, None))), due)
        self.same(on_ways(plan=HEATH, picture=CALLED), [(6, "oak", "brook"), (8, "elm", "path"), (11, "ash", "brook")])

    def test_none(self):
        self.same(on_ways(HEATH, begun(HEATH)), [])
        self.same(on_ways(HEATH, (11, (0, 2, None, 5))), [])
        self.same(on_ways(ALONE, (0, (0,))), [])
        self.same(on_ways(NO_WAYS, (4, (4, 3, 2, 1))), [])

    def test_till_the_beat_ahead_of_that_in_which_it_is_heard(self):
        plan = two(13, 6)
        for beat in range(5, 11):
            self.same(on_ways(plan, (beat, (5, None))), [(11, "b", "u")])
        self.same(on_ways(plan, (11, (5, 11))), [(17, "a", "u")])
        self.same(on_ways(plan, (17, (5, 11))), [])

    def test_calls_that_will_find_a_hoarse_one(self):
        self.same(on_ways(two(7, 2), (10, (10, 10))), [(12, "a", "u"), (12, "b", "u")])
        self.same(on_ways(two(7, 3), (10, (8, 10))), [(11, "b", "u"), (13, "a", "u")])

    def test_several_ways_between_two(self):
        plan = two(13, 6, 1, 3, 3)
        due = [(11, "b", "v"), (13, "b", "w"), (13, "b", "x"), (16, "b", "u")]
        self.same(on_ways(plan, (10, (10, None))), due)
        due = [(12, "a", "v"), (13, "b", "w"), (13, "b", "x"), (14, "a", "w"), (14, "a", "x")]
        due += [(16, "b", "u"), (17, "a", "u")]
        self.same(on_ways(plan, (11, (10, 11))), due)

    def test_rising_by_beat_then_caller_then_way(self):
        plan = (9, ("a", "b", "c"), (("u", "b", "c", 4), ("v", "a", "c", 2), ("w", "a", "b", 2), ("x", "a", "b", 2)))
        due = [(2, "b", "w"), (2, "b", "x"), (2, "c", "v")]
        self.same(on_ways(plan, (0, (0, None, None))), due)
        due = [(2, "a", "w"), (2, "a", "x"), (2, "b", "w"), (2, "b", "x"), (2, "c", "v"), (4, "c", "u")]
        self.same(on_ways(plan, (0, (0, 0, None))), due)

    def test_far_beats(self):
        self.same(on_ways(two(7, 2), (FAR, (FAR, None))), [(FAR + 2, "b", "u")])
        self.same(on_ways(two(7, 2), (FAR, (FAR - 2, FAR))), [(FAR + 2, "a", "u")])

    def test_behind_deeds(self):
        for plan, picture, field in scenes(300):
            self.same(on_ways(plan, picture), sorted(field.flying))

    def test_what_is_handed_in_stays(self):
        self.keeps(on_ways, HEATH, CALLED)
        self.keeps(on_ways, HEATH, begun(HEATH))


class Owed(Asking):
    def test_ordinary(self):
        self.same(owed(HEATH, (0, (0, None, None, None))), [("brook", "oak"), ("lane", "elm")])
        self.same(owed(HEATH, (2, (0, 2, None, None))), [("brook", "oak"), ("path", "oak")])
        self.same(owed(plan=HEATH, picture=CALLED), [])

    def test_none(self):
        self.same(owed(HEATH, begun(HEATH)), [])
        self.same(owed(ALONE, (4, (4,))), [])

    def test_either_may_owe(self):
        self.same(owed(two(7, 2), (10, (10, None))), [("u", "b")])
        self.same(owed(two(7, 2), (10, (None, 10))), [("u", "a")])
        self.same(owed(two(7, 2), (10, (10, 5))), [("u", "b")])
        self.same(owed(two(7, 2), (10, (4, 9))), [("u", "a")])

    def test_its_own_call_lies_just_the_beats_ahead_and_more(self):
        self.same(owed(two(5, 2), (10, (10, 8))), [])
        self.same(owed(two(5, 2), (10, (10, 7))), [("u", "b")])
        self.same(owed(two(5, 2), (10, (8, 10))), [])
        self.same(owed(two(5, 2), (10, (7, 10))), [("u", "a")])
        self.same(owed(two(5, 2), (10, (10, 10))), [])

    def test_till_the_call_is_heard(self):
        for beat in (10, 11):
            self.same(owed(two(7, 2), (beat, (10, None))), [("u", "b")])
        self.same(owed(two(7, 2), (12, (10, 12))), [])

    def test_several_ways_between_two(self):
        self.same(owed(two(7, 3, 1, 2), (10, (10, None))), [("u", "b"), ("v", "b"), ("w", "b")])
        self.same(owed(two(7, 3, 1, 2), (11, (10, 11))), [])

    def test_rising_by_way_not_by_caller(self):
        plan = (9, ("a", "b", "c"), (("u", "b", "c", 2), ("v", "a", "b", 2), ("w", "a", "c", 2)))
        self.same(owed(plan, (0, (None, 0, None))), [("u", "c"), ("v", "a")])
        self.same(owed(plan, (0, (None, None, 0))), [("u", "b"), ("w", "a")])

    def test_far_beats(self):
        self.same(owed(two(7, 2), (FAR, (FAR, FAR - 5))), [("u", "b")])
        self.same(owed(two(7, 2), (FAR, (FAR, FAR - 2))), [])

    def test_behind_deeds(self):
        for plan, picture, field in (*scenes(300), *small_pictures()):
            ends = {name: {1: other, -1: one, 0: None} for name, one, other, _ in plan[2]}
            due = [(way[0], ends[way[0]][field.lean(way[0])]) for way in plan[2] if field.lean(way[0])]
            self.same(owed(plan, picture), due)

    def test_what_is_handed_in_stays(self):
        self.keeps(owed, HEATH, (0, (0, None, None, None)))
        self.keeps(owed, HEATH, begun(HEATH))


class Pictures(Asking):
    def test_the_heaths_here_are_right(self):
        for plan, picture, _ in (*scenes(400), *small_pictures()):
            self.assertTrue(is_plan(plan) and right_picture(plan, picture), (plan, picture))

    def test_two_heaths_are_told_apart(self):
        for ask, due, other in (
            (free_beats, [15, 8], [17, 8]),
            (on_ways, [(9, "b", "u"), (10, "b", "v")], [(11, "b", "u")]),
            (owed, [("u", "b"), ("v", "b")], [("u", "b")]),
        ):
            for _ in range(2):
                self.same(ask(two(7, 1, 2), (8, (8, None))), due)
                self.same(ask(two(9, 3), (8, (8, None))), other)

    def test_each_is_made_in_its_own_file(self):
        for made in (is_picture, begun, free_beats, on_ways, owed):
            self.assertEqual(made.__module__, "hoarseheath.pictures")
