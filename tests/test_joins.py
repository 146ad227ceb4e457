from hoarseheath.beats import run
from hoarseheath.errors import BadBeats, NoWay, There, TooMany, Unlike
from hoarseheath.joins import parted, pictures_together, times, together
from hoarseheath.pictures import begun, is_picture
from hoarseheath.plans import is_plan
from tests.heaths import NAMES, Asking, Dice, Field, circling, scenes, shifted, winding_scenes

ONE = (9, ("ash", "elm", "oak"), (("brook", "ash", "elm", 4), ("lane", "elm", "oak", 2)))
OTHER = (9, ("birch", "fir"), (("ditch", "birch", "fir", 3), ("path", "birch", "fir", 1)))
LONE = (9, ("yew",), ())
FAR = 10 ** 12


def line(rest, callers, names, beats=1):
    """A plan of callers in a row."""
    return rest, tuple(callers), tuple((name, *ends, beats) for name, *ends in zip(names, callers, callers[1:]))


def renamed(plan, callers, ways):
    """The plan with other names, by dicts, its rows still in order."""
    rest, old, rows = plan
    return rest, tuple(sorted(callers[one] for one in old)), tuple(sorted(
        (ways[name], *sorted((callers[one], callers[other])), beats) for name, one, other, beats in rows
    ))


class Together(Asking):
    def test_ordinary(self):
        due = (
            9,
            ("ash", "birch", "elm", "fir", "oak"),
            (("brook", "ash", "elm", 4), ("ditch", "birch", "fir", 3), ("lane", "elm", "oak", 2), ("path", "birch", "fir", 1)),
        )
        self.same(together(ONE, OTHER), due)
        self.same(together(OTHER, ONE), due)
        self.same(together(LONE, LONE[:1] + (("ash",), ())), (9, ("ash", "yew"), ()))

    def test_by_name(self):
        self.same(together(one=ONE, other=LONE), together(LONE, ONE))
        self.same(together(other=LONE, one=ONE), (9, ("ash", "elm", "oak", "yew"), ONE[2]))

    def test_it_is_a_plan(self):
        dice = Dice(9)
        for plan, _, _ in scenes(80):
            some = {name: name + "x" for name in plan[1]}
            for callers in (some, {name: "y" + name for name in plan[1]}):
                ways = {way[0]: dice.pick(("a", "z")) + way[0] for way in plan[2]}
                other = renamed(plan, callers, ways)
                if len(plan[1]) <= 4 and len(plan[2]) <= 5:
                    told = together(plan, other)
                    self.assertIs(is_plan(told), True)
                    self.same(told, (plan[0], tuple(sorted(plan[1] + other[1])), tuple(sorted(plan[2] + other[2]))))

    def test_a_way_may_be_called_as_a_caller(self):
        told = together(ONE, (9, ("brook", "lane"), (("ash", "brook", "lane", 1),)))
        self.same(told, (9, ("ash", "brook", "elm", "lane", "oak"), (("ash", "brook", "lane", 1), *ONE[2])))

    def test_the_bounds_just_kept(self):
        told = together(line(3, "abcd", "klm"), line(3, "efgh", "nop"))
        self.same((len(told[1]), len(told[2]), is_plan(told)), (8, 6, True))
        five = tuple((name, "a", "b", 1) for name in "klmno")
        more = tuple((name, "c", "d", 1) for name in "pqrst")
        told = together((3, ("a", "b"), five), (3, ("c", "d"), more))
        self.same((len(told[2]), is_plan(told)), (10, True))

    def test_unlike_rests(self):
        self.refused(Unlike, 11, together, ONE, (11, *OTHER[1:]))
        self.refused(Unlike, 9, together, (11, *ONE[1:]), OTHER)
        self.refused(Unlike, 3, together, other=(3, ("b",), ()), one=LONE)

    def test_there(self):
        self.refused(There, "elm", together, ONE, (9, ("birch", "elm"), ()))
        self.refused(There, "elm", together, ONE, (9, ("elm", "oak"), ()))
        self.refused(There, "elm", together, (9, ("elm", "oak"), ()), ONE)
        self.refused(There, "ash", together, ONE, ONE)
        self.refused(There, "brook", together, ONE, (9, ("birch", "fir"), (("brook", "birch", "fir", 1),)))
        ways = (("alley", "birch", "fir", 1), ("brook", "birch", "fir", 1), ("lane", "birch", "fir", 1))
        self.refused(There, "brook", together, ONE, (9, ("birch", "fir"), ways))
        self.refused(There, "lane", together, ONE, (9, ("birch", "fir"), ways[2:]))

    def test_too_many(self):
        self.refused(TooMany, "callers", together, line(3, "abcd", ""), line(3, "efghi", ""))
        self.refused(TooMany, "callers", together, (3, tuple("abcdefgh"), ()), (3, ("i",), ()))
        five = tuple((name, "a", "b", 1) for name in "klmno")
        more = tuple((name, "c", "d", 1) for name in "pqrstu")
        self.refused(TooMany, "ways", together, (3, ("a", "b"), five), (3, ("c", "d"), more))
        self.refused(TooMany, "ways", together, (3, ("a", "b"), five), (3, ("c", "d"), tuple(
            (name + "x", "c", "d", 1) for name in "abcdefghij"
        )))

    def test_what_goes_first(self):
        many = (3, tuple("abcdefgh"), tuple((name, "a", "b", 1) for name in "klmnop"))
        other = (5, tuple("hijklmno"), tuple((name, "i", "j", 1) for name in "nopqrs"))
        self.refused(Unlike, 5, together, many, other)
        self.refused(There, "h", together, many, (3, *other[1:]))
        self.refused(There, "n", together, many, (3, tuple("ijklmno"), other[2]))
        self.refused(TooMany, "callers", together, many, (3, tuple("ijklmno"), tuple(
            (name, "i", "j", 1) for name in "qrstuv"
        )))
        self.refused(TooMany, "ways", together, (3, ("a", "b"), many[2]), (3, ("i", "j"), tuple(
            (name, "i", "j", 1) for name in "qrstuv"
        )))

    def test_what_is_handed_in_stays(self):
        self.keeps(together, ONE, OTHER)


class PicturesTogether(Asking):
    def test_ordinary(self):
        self.same(pictures_together(ONE, OTHER, (4, (4, None, 2)), (4, (1, 3))), (4, (4, 1, None, 3, 2)))
        self.same(pictures_together(OTHER, ONE, (4, (1, 3)), (4, (4, None, 2))), (4, (4, 1, None, 3, 2)))
        self.same(pictures_together(ONE, LONE, begun(ONE), begun(LONE)), begun(together(ONE, LONE)))

    def test_by_name(self):
        due = (4, (4, None, 2, 0))
        self.same(pictures_together(one=ONE, other=LONE, picture=(4, (4, None, 2)), second=(4, (0,))), due)
        self.same(pictures_together(second=(4, (0,)), picture=(4, (4, None, 2)), other=LONE, one=ONE), due)

    def test_both_go_on_as_each_alone(self):
        some = 0
        for plan, picture, _ in (*scenes(120), *winding_scenes(30)):
            for other, second, _ in scenes(12):
                if plan[0] == other[0] and len(plan[1]) + len(other[1]) <= 8 and len(plan[2]) + len(other[2]) <= 10:
                    some += 1
                    callers = {name: name + "y" for name in other[1]}
                    other = renamed(other, callers, {way[0]: way[0] + "y" for way in other[2]})
                    second = shifted(second, picture[0] - second[0]) if picture[0] >= second[0] else second
                    mine = shifted(picture, second[0] - picture[0])
                    both, told = together(plan, other), pictures_together(plan, other, mine, second)
                    self.assertIs(is_picture(both, told), True)
                    last, calls = run(both, told, 40)
                    ones, others = run(plan, mine, 40), run(other, second, 40)
                    self.same(calls, sorted(ones[1] + others[1]))
                    self.same(last, pictures_together(plan, other, ones[0], others[0]))
        self.assertGreater(some, 10)

    def test_far_beats(self):
        self.same(pictures_together(ONE, LONE, (FAR, (4, None, FAR)), (FAR, (None,))), (FAR, (4, None, FAR, None)))

    def test_unlike_beats(self):
        self.refused(Unlike, 5, pictures_together, ONE, OTHER, (4, (4, None, 2)), (5, (1, 3)))
        self.refused(Unlike, 4, pictures_together, OTHER, ONE, (5, (1, 3)), (4, (4, None, 2)))
        self.refused(Unlike, FAR, pictures_together, second=(FAR, (3,)), picture=begun(ONE), other=LONE, one=ONE)

    def test_refused_as_together_ahead_of_unlike_beats(self):
        for beat in (0, 7):
            self.refused(Unlike, 11, pictures_together, ONE, (11, *LONE[1:]), begun(ONE), (beat, (None,)))
            self.refused(There, "elm", pictures_together, ONE, (9, ("elm",), ()), begun(ONE), (beat, (None,)))
            way = (("lane", "birch", "fir", 1),)
            self.refused(There, "lane", pictures_together, ONE, (9, OTHER[1], way), begun(ONE), (beat, (None, None)))
            eight = (9, tuple("abcdefgh"), ())
            self.refused(TooMany, "callers", pictures_together, ONE, eight, begun(ONE), (beat, (None,) * 8))
            ways = tuple((name, "birch", "fir", 1) for name in "abcdefghi")
            self.refused(TooMany, "ways", pictures_together, ONE, (9, OTHER[1], ways), begun(ONE), (beat, (None, None)))

    def test_what_is_handed_in_stays(self):
        self.keeps(pictures_together, ONE, OTHER, (4, (4, None, 2)), (4, (1, 3)))


class Parted(Asking):
    def test_ordinary(self):
        self.same(parted(ONE, "brook", "fir", "path", 1), (
            9, ("ash", "elm", "fir", "oak"), (("brook", "ash", "fir", 1), ("lane", "elm", "oak", 2), ("path", "elm", "fir", 3)),
        ))
        self.same(parted(ONE, "lane", "fir", "alley", 1), (
            9, ("ash", "elm", "fir", "oak"), (("alley", "fir", "oak", 1), ("brook", "ash", "elm", 4), ("lane", "elm", "fir", 1)),
        ))

    def test_by_name(self):
        due = parted(ONE, "brook", "fir", "path", 3)
        self.same(parted(plan=ONE, way="brook", caller="fir", name="path", beats=3), due)
        self.same(parted(beats=3, name="path", caller="fir", way="brook", plan=ONE), due)
        self.same([way[3] for way in due[2]], [3, 2, 1])

    def test_each_length(self):
        for beats in range(1, 6):
            plan = (13, ("a", "c"), (("u", "a", "c", 6),))
            self.same(parted(plan, "u", "b", "v", beats), (
                13, ("a", "b", "c"), (("u", "a", "b", beats), ("v", "b", "c", 6 - beats)),
            ))

    def test_callers_put_in_at_either_end(self):
        plan = (9, ("b", "d"), (("u", "b", "d", 4),))
        self.same(parted(plan, "u", "a", "v", 1), (9, ("a", "b", "d"), (("u", "a", "b", 1), ("v", "a", "d", 3))))
        self.same(parted(plan, "u", "c", "v", 1), (9, ("b", "c", "d"), (("u", "b", "c", 1), ("v", "c", "d", 3))))
        self.same(parted(plan, "u", "e", "v", 1), (9, ("b", "d", "e"), (("u", "b", "e", 1), ("v", "d", "e", 3))))

    def test_ways_put_in_at_either_end(self):
        plan = (9, ("b", "d"), (("u", "b", "d", 4), ("w", "b", "d", 2)))
        self.same(parted(plan, "u", "c", "a", 1)[2], (("a", "c", "d", 3), ("u", "b", "c", 1), ("w", "b", "d", 2)))
        self.same(parted(plan, "u", "c", "v", 1)[2], (("u", "b", "c", 1), ("v", "c", "d", 3), ("w", "b", "d", 2)))
        self.same(parted(plan, "u", "c", "z", 1)[2], (("u", "b", "c", 1), ("w", "b", "d", 2), ("z", "c", "d", 3)))
        self.same(parted(plan, "w", "c", "a", 1)[2], (("a", "c", "d", 1), ("u", "b", "d", 4), ("w", "b", "c", 1)))

    def test_it_is_a_plan(self):
        for plan, _, _ in (*scenes(80), *winding_scenes(60)):
            if len(plan[1]) < 8 and len(plan[2]) < 10:
                for way in plan[2]:
                    for caller, name in (("aa", "zz"), ("zz", "aa"), ("bb", "ll")):
                        for beats in range(1, way[3]):
                            told = parted(plan, way[0], caller, name, beats)
                            self.assertIs(is_plan(told), True)
                            one, other = (row for row in told[2] if row[0] in (way[0], name) and caller in row[1:3])
                            self.same(one[3] + other[3], way[3])

    def test_all_others_call_just_as_ahead(self):
        dice = Dice(3)
        calls = 0
        for seed in range(150):
            plan = (13, NAMES[:2 + dice.under(5)], ())
            rows = []
            for name in "klmnopqr"[:1 + dice.under(8)]:
                one, other = sorted((dice.pick(plan[1]), dice.pick(plan[1])))
                if one < other:
                    rows.append((name, one, other, 1 + dice.under(6)))
            long = [way for way in rows if way[3] > 1]
            if not long:
                continue
            plan = (*plan[:2], tuple(rows))
            way = dice.pick(long)
            new = dice.pick(("aa", "cc", "zz"))
            other = parted(plan, way[0], new, dice.pick(("aa", "zz", "mm")), 1 + dice.under(way[3] - 1))
            fields = [Field(13, plan[1]), Field(13, other[1])]
            for field, rows in zip(fields, (plan[2], other[2])):
                for row in rows:
                    field.add_way(row)
            for _ in range(30):
                caller = dice.pick(plan[1])
                self.assertEqual(fields[0].may_call(caller), fields[1].may_call(caller))
                if fields[0].may_call(caller):
                    for field in fields:
                        field.call(caller)
                beats = 1 + dice.under(20)
                one, other_calls = fields[0].go(beats), fields[1].go(beats)
                calls += len(one)
                self.same([call for call in other_calls if call[1] != new], one)
        self.assertGreater(calls, 1000)

    def test_the_bounds_just_kept(self):
        plan = (5, tuple("abcdefg"), tuple((name, "a", "b", 2) for name in "klmnopqrs"))
        told = parted(plan, "k", "h", "t", 1)
        self.same((len(told[1]), len(told[2]), is_plan(told)), (8, 10, True))

    def test_no_way(self):
        for way in ("path", "", "ash", "LANE"):
            self.refused(NoWay, way, parted, ONE, way, "fir", "path", 1)
        self.refused(NoWay, "u", parted, beats=1, name="v", caller="a", way="u", plan=LONE)

    def test_there(self):
        for caller in ("ash", "elm", "oak"):
            self.refused(There, caller, parted, ONE, "brook", caller, "path", 1)
        for name in ("brook", "lane"):
            self.refused(There, name, parted, ONE, "brook", "fir", name, 1)
            self.refused(There, name, parted, ONE, "lane", "fir", name, 1)

    def test_names_of_the_other_kind_are_free(self):
        told = parted(ONE, "brook", "lane", "ash", 2)
        self.same(told, (9, ("ash", "elm", "lane", "oak"), (
            ("ash", "elm", "lane", 2), ("brook", "ash", "lane", 2), ("lane", "elm", "oak", 2),
        )))

    def test_bad_beats(self):
        for beats in (0, -1, 4, 5, 6, FAR, -FAR):
            self.refused(BadBeats, beats, parted, ONE, "brook", "fir", "path", beats)
        for beats in (0, 2, 3):
            self.refused(BadBeats, beats, parted, ONE, "lane", "fir", "path", beats)
        for beats in (0, 1, 2):
            self.refused(BadBeats, beats, parted, OTHER, "path", "oak", "lane", beats)

    def test_too_many(self):
        eight = (5, tuple("abcdefgh"), (("k", "a", "b", 2),))
        self.refused(TooMany, "callers", parted, eight, "k", "i", "l", 1)
        ten = (5, tuple("abc"), tuple((name, "a", "b", 2) for name in "klmnopqrst"))
        self.refused(TooMany, "ways", parted, ten, "k", "i", "u", 1)
        self.refused(TooMany, "callers", parted, (5, eight[1], ten[2]), "k", "i", "u", 1)

    def test_what_goes_first(self):
        plan = (5, tuple("abcdefgh"), tuple((name, "a", "b", 2) for name in "klmnopqrst"))
        self.refused(NoWay, "u", parted, plan, "u", "a", "k", 0)
        self.refused(There, "a", parted, plan, "k", "a", "k", 0)
        self.refused(There, "k", parted, plan, "k", "i", "k", 0)
        self.refused(BadBeats, 0, parted, plan, "k", "i", "u", 0)
        self.refused(BadBeats, 2, parted, plan, "k", "i", "u", 2)
        self.refused(TooMany, "callers", parted, plan, "k", "i", "u", 1)

    def test_what_is_handed_in_stays(self):
        self.keeps(parted, ONE, "brook", "fir", "path", 1)


class Times(Asking):
    def test_ordinary(self):
        plan = (5, ("a", "b", "c"), (("u", "a", "b", 2), ("v", "b", "c", 1)))
        self.same(times(plan, 2), (10, ("a", "b", "c"), (("u", "a", "b", 4), ("v", "b", "c", 2))))
        self.same(times(plan, 3), (15, ("a", "b", "c"), (("u", "a", "b", 6), ("v", "b", "c", 3))))
        self.same(times(LONE, 2), (18, ("yew",), ()))

    def test_by_name(self):
        self.same(times(plan=LONE, number=2), (18, ("yew",), ()))
        self.same(times(number=2, plan=LONE), (18, ("yew",), ()))

    def test_the_bounds_just_kept_and_just_passed(self):
        for rest in range(3, 25):
            for number in range(2, 25):
                plan = (rest, ("a", "b"), ())
                if rest * number <= 24:
                    self.same(times(plan, number), (rest * number, ("a", "b"), ()))
                else:
                    self.refused(BadBeats, number, times, plan, number)
                for beats in range(1, 7):
                    if 2 * beats + 1 <= rest:
                        plan = (rest, ("a", "b"), (("u", "a", "b", 1), ("v", "a", "b", beats)))
                        if rest * number <= 24 and beats * number <= 6:
                            due = (rest * number, ("a", "b"), (("u", "a", "b", number), ("v", "a", "b", beats * number)))
                            self.same(times(plan, number), due)
                            self.assertIs(is_plan(due), True)
                        else:
                            self.refused(BadBeats, number, times, plan, number)

    def test_numbers_beyond(self):
        self.same(times((3, ("a", "b"), (("u", "a", "b", 1),)), 1), (3, ("a", "b"), (("u", "a", "b", 1),)))
        for number in (0, -1, -2, 25, FAR):
            self.refused(BadBeats, number, times, (3, ("a", "b"), (("u", "a", "b", 1),)), number)

    def test_one_way_too_long_wherever_it_stands(self):
        for at in range(3):
            ways = [("u", "a", "b", 1), ("v", "a", "b", 1), ("w", "a", "b", 1)]
            ways[at] = (*ways[at][:3], 4)
            self.refused(BadBeats, 2, times, (9, ("a", "b"), tuple(ways)), 2)

    def test_all_is_as_many_times_as_late(self):
        for rest, beats, waves in ((3, [1, 1, 1], 1), (3, [1] * 8, 2), (5, [2, 1, 2, 2], 1), (4, [1] * 5, 1)):
            plan, picture = circling(rest, beats, waves)
            for number in range(2, 6 // max(beats) + 1):
                if number * rest <= 24:
                    late = (picture[0] * number, tuple(None if last is None else last * number for last in picture[1]))
                    _, calls = run(plan, picture, 30)
                    _, others = run(times(plan, number), late, 30 * number)
                    self.same(others, [(beat * number, caller) for beat, caller in calls])

    def test_what_is_handed_in_stays(self):
        self.keeps(times, LONE, 2)


class Refusals(Asking):
    def test_bases(self):
        for error, base in ((Unlike, ValueError), (There, LookupError), (TooMany, OverflowError), (BadBeats, ValueError)):
            self.assertEqual(error.__bases__, (base,))

    def test_each_is_made_in_its_own_file(self):
        for made in (together, pictures_together, parted, times):
            self.assertEqual(made.__module__, "hoarseheath.joins")
