from hoarseheath.errors import NoCaller
from hoarseheath.leaps import call_at
from hoarseheath.pictures import begun, is_picture
from hoarseheath.stories import shows_story, story
from tests.heaths import (
    ANY, Asking, Dice, Field, circling, is_plain, otherwise, scenes, shifted, small_pictures, twice_otherwise,
    winding_scenes,
)

LINE = (5, ("a", "b", "c", "d", "e"), tuple((name, one, other, 2) for name, one, other in zip("uvwx", "abcd", "bcde")))
TWICE = (5, (5, 2, 4, None, None))
# A ring round which a call goes on for ever, and beside it a part that gets quiet and one alone.
BOTH = (
    3,
    ("a", "b", "c", "d", "e", "f"),
    (("u", "a", "c", 1), ("v", "c", "e", 1), ("w", "a", "e", 1), ("x", "b", "d", 1), ("y", "b", "d", 1)),
)
GOING = (2, (0, 2, 1, None, 2, None))
# d hears a by two roads and two ways at once.
ROADS = (
    7,
    ("a", "b", "c", "d"),
    (("p", "a", "b", 1), ("q", "b", "d", 2), ("r", "a", "c", 2), ("s", "c", "d", 1), ("t", "a", "d", 3), ("u", "a", "d", 3)),
)
BEGUN = (4, (4, None, None, None))
STORIES = (
    [(7, "d", "q"), (5, "b", "p"), (4, "a", "")],
    [(7, "d", "s"), (6, "c", "r"), (4, "a", "")],
    [(7, "d", "t"), (4, "a", "")],
    [(7, "d", "u"), (4, "a", "")],
)
ALONE = (3, ("ash",), ())
FAR = 10 ** 12


def heard_till(field, beats):
    """For each call (beat, caller) of so many beats the ways by which it was heard: triples (way, there, beats)."""
    told = {}
    for _ in range(beats):
        flying = [call for call in field.flying if call[0] == field.beat + 1]
        for beat, caller in field.go():
            told[beat, caller] = []
            for _, hearer, name in flying:
                if hearer == caller:
                    _, one, other, long = field.ways[name]
                    told[beat, caller].append((name, other if caller == one else one, long))
    return told


def right_story(plan, picture, heard, caller, number, thing):
    """Whether a thing is a story, straight by the document's words; heard tells of the calls to come."""
    if type(thing) is not list or any(type(link) is not tuple or len(link) != 3 for link in thing) or len(thing) < 2:
        return False
    if any(not is_plain(beat) or type(one) is not str or type(way) is not str for beat, one, way in thing):
        return False
    calls = sorted(beat for beat, one in heard if one == caller)
    if number > len(calls) or thing[0][:2] != (calls[number - 1], caller):
        return False
    for (beat, one, way), (earlier, there, _) in zip(thing, thing[1:]):
        if (way, there, beat - earlier) not in heard.get((beat, one), []):
            return False
    beat, one, way = thing[-1]
    return way == "" and one in plan[1] and dict(zip(plan[1], picture[1]))[one] == beat


def all_stories(picture, heard, call):
    """All stories of a call."""
    if call[0] <= picture[0]:
        return [[(*call, "")]]
    return [
        [(*call, way), *more]
        for way, there, beats in heard[call] for more in all_stories(picture, heard, (call[0] - beats, there))
    ]


class Story(Asking):
    def fits(self, plan, picture, heard, caller, number, told):
        with self.subTest(plan=plan, picture=picture, caller=caller, number=number, told=told):
            self.assertTrue(right_story(plan, picture, heard, caller, number, told))
            self.assertIs(shows_story(plan, picture, caller, number, told), True)

    def test_ordinary(self):
        self.same(story(LINE, TWICE, "e", 2), [(13, "e", "x"), (11, "d", "w"), (9, "c", "v"), (7, "b", "u"), (5, "a", "")])
        self.same(story(LINE, TWICE, "e", 1), [(8, "e", "x"), (6, "d", "w"), (4, "c", "")])
        self.same(story(LINE, TWICE, "d", 1), [(6, "d", "w"), (4, "c", "")])
        self.same(story(LINE, TWICE, "b", 1), [(7, "b", "u"), (5, "a", "")])

    def test_by_name(self):
        due = [(6, "d", "w"), (4, "c", "")]
        self.same(story(plan=LINE, picture=TWICE, caller="d", number=1), due)
        self.same(story(number=1, caller="d", picture=TWICE, plan=LINE), due)

    def test_several_heard_at_once(self):
        self.assertIn(story(ROADS, BEGUN, "d", 1), STORIES)
        self.same(story(ROADS, BEGUN, "b", 1), [(5, "b", "p"), (4, "a", "")])

    def test_for_ever(self):
        due = [(7, "c", "u"), (6, "a", "w"), (5, "e", "v"), (4, "c", "u"), (3, "a", "w"), (2, "e", "")]
        self.same(story(BOTH, GOING, "c", 2), due)
        self.same(story(BOTH, GOING, "a", 1), due[4:])
        self.same(len(story(BOTH, GOING, "e", 100)), 301)
        self.same(story(BOTH, GOING, "e", 100)[:2], [(302, "e", "v"), (301, "c", "u")])

    def test_fewer_to_come(self):
        for caller, many in zip("abcde", (0, 1, 1, 2, 2)):
            for more in (1, 2, 50, 100):
                self.same(story(LINE, TWICE, caller, many + more), None)
        for plan in (LINE, BOTH):
            for caller in plan[1]:
                self.same(story(plan, begun(plan), caller, 1), None)
        self.same(story(BOTH, GOING, "d", 2), None)
        self.same(story(BOTH, GOING, "f", 1), None)
        self.same(story(ALONE, (0, (0,)), "ash", 1), None)

    def test_behind_deeds(self):
        for plan, picture, field in (*scenes(150), *winding_scenes(60), *small_pictures()[::20]):
            heard = heard_till(Field.of(plan, picture), 70)
            for caller in plan[1]:
                calls = [beat for beat, one in heard if one == caller]
                for number in range(1, len(calls) + 1):
                    self.fits(plan, picture, heard, caller, number, story(plan, picture, caller, number))
                if field.to_come(caller) is not None:
                    self.same(story(plan, picture, caller, len(calls) + 1), None)

    def test_numbers_to_100(self):
        longest = 0
        for plan, picture, _ in winding_scenes(12):
            heard = heard_till(Field.of(plan, picture), 100 * 30)
            for number in (30, 99, 100):
                told = story(plan, picture, "b", number)
                longest = max(longest, len(told))
                self.assertTrue(right_story(plan, picture, heard, "b", number, told))
                self.assertIs(shows_story(plan, picture, "b", number, told), True)
        self.assertGreater(longest, 300)

    def test_each_link_is_a_call_to_come_but_the_last(self):
        for plan, picture, _ in winding_scenes(60):
            told = story(plan, picture, "c", 7)
            for beat, caller, _ in told[:-1]:
                self.assertIn(beat, [call_at(plan, picture, caller, number) for number in range(1, 30)])
            beat, caller, way = told[-1]
            self.same((dict(zip(plan[1], picture[1]))[caller], way), (beat, ""))

    def test_from_far_beats(self):
        for plan, picture, _ in (*scenes(40), *winding_scenes(40), (LINE, TWICE, None), (BOTH, GOING, None)):
            for caller in plan[1]:
                told = story(plan, picture, caller, 2)
                due = told and [(beat + FAR, one, way) for beat, one, way in told]
                self.same(story(plan, shifted(picture, FAR), caller, 2), due)

    def test_kinds(self):
        told = story(LINE, TWICE, "d", 1)
        self.assertEqual((type(told), [type(link) for link in told]), (list, [tuple, tuple]))

    def test_no_caller(self):
        for caller in ("heron", "", "u", "A"):
            for number in (1, 2, 100):
                self.refused(NoCaller, caller, story, LINE, TWICE, caller, number)
                self.refused(NoCaller, caller, story, LINE, begun(LINE), caller, number)
        self.refused(NoCaller, "z", story, number=1, caller="z", plan=LINE, picture=TWICE)
        self.assertEqual(NoCaller.__bases__, (LookupError,))

    def test_what_is_handed_in_stays(self):
        self.keeps(story, LINE, TWICE, "e", 2)
        self.keeps(story, BOTH, GOING, "a", 9)
        self.keeps(story, BOTH, GOING, "b", 1)


class ShowsStory(Asking):
    def yes(self, plan, picture, caller, number, thing):
        with self.subTest(plan=plan, picture=picture, caller=caller, number=number, thing=thing):
            self.assertIs(shows_story(plan, picture, caller, number, thing), True)

    def no(self, plan, picture, caller, number, thing):
        with self.subTest(plan=plan, picture=picture, caller=caller, number=number, thing=thing):
            self.assertIs(shows_story(plan, picture, caller, number, thing), False)

    def test_ordinary(self):
        self.yes(LINE, TWICE, "d", 1, [(6, "d", "w"), (4, "c", "")])
        self.yes(LINE, TWICE, "e", 1, [(8, "e", "x"), (6, "d", "w"), (4, "c", "")])
        self.yes(BOTH, GOING, "a", 1, [(3, "a", "w"), (2, "e", "")])

    def test_by_name(self):
        thing = [(6, "d", "w"), (4, "c", "")]
        self.assertIs(shows_story(plan=LINE, picture=TWICE, caller="d", number=1, thing=thing), True)
        self.assertIs(shows_story(thing=thing, number=2, caller="d", picture=TWICE, plan=LINE), False)

    def test_several_heard_at_once(self):
        for thing in STORIES:
            self.yes(ROADS, BEGUN, "d", 1, thing)
            for number in (2, 3, 100):
                self.no(ROADS, BEGUN, "d", number, thing)
        for first in STORIES:
            for second in STORIES:
                if first[1:] != second[1:]:
                    self.no(ROADS, BEGUN, "d", 1, [first[0], *second[1:]])

    def test_all_stories_of_a_call(self):
        many = 0
        for plan, picture, _ in (*scenes(200), *winding_scenes(40)):
            heard = heard_till(Field.of(plan, picture), 40)
            for caller in plan[1]:
                calls = sorted(beat for beat, one in heard if one == caller)
                for number, beat in enumerate(calls[:2], 1):
                    stories = all_stories(picture, heard, (beat, caller))[:20]
                    many += len(stories) > 1
                    for thing in stories:
                        self.yes(plan, picture, caller, number, thing)
                        self.no(plan, picture, caller, number + 1, thing)
                        self.no(plan, picture, caller, number - 1, thing)
        self.assertGreater(many, 40)

    def test_a_story_of_another_call(self):
        for caller in "abcde":
            for number in (1, 2):
                told = story(LINE, TWICE, caller, number)
                if told is not None:
                    for other in "abcde":
                        for another in (1, 2, 3):
                            if (other, another) != (caller, number):
                                self.no(LINE, TWICE, other, another, told)

    def test_a_part_of_a_story(self):
        told = story(LINE, TWICE, "e", 2)
        for first in range(len(told) + 1):
            for behind in range(first, len(told) + 1):
                if (first, behind) != (0, len(told)):
                    self.no(LINE, TWICE, "e", 2, told[first:behind])
        self.no(LINE, TWICE, "e", 2, told + told)
        self.no(LINE, TWICE, "e", 2, told + told[-1:])

    def test_a_call_that_was_ahead_of_its_callers_last_one(self):
        # As if b had called in 0, 1 and 2: its last one alone is a call that's known of.
        for beat in (-1, 0, 1, 2, 3, 4, 5):
            self.no(LINE, TWICE, "c", 1, [(beat + 2, "c", "v"), (beat, "b", "")])
        # a's last call is known, but b could have heard it long ago alone.
        self.no(LINE, (9, (2, None, None, None, None)), "b", 1, [(4, "b", "u"), (2, "a", "")])

    def test_a_call_that_was_as_a_link_of_its_own(self):
        # What c called in 4 it called since it had heard b in 2: true, but no call to come.
        thing = [(6, "d", "w"), (4, "c", "v"), (2, "b", "")]
        self.no(LINE, TWICE, "d", 1, thing)
        self.no(LINE, TWICE, "c", 1, thing[1:])
        self.no(LINE, TWICE, "b", 1, thing[2:])

    def test_a_call_that_is_heard_by_one_that_is_hoarse(self):
        # b is heard by a in 9, when a can't call: that's no link.
        self.no(LINE, TWICE, "a", 1, [(9, "a", "u"), (7, "b", "u"), (5, "a", "")])
        self.no(LINE, TWICE, "b", 2, [(11, "b", "v"), (9, "c", "v"), (7, "b", "u"), (5, "a", "")])

    def test_a_caller_of_another_part(self):
        self.no(BOTH, GOING, "d", 1, [(3, "d", "x"), (2, "e", "")])
        self.no(BOTH, GOING, "a", 1, [(3, "a", "w"), (2, "b", "")])
        self.yes(BOTH, GOING, "d", 1, [(3, "d", "x"), (2, "b", "")])
        self.yes(BOTH, GOING, "d", 1, [(3, "d", "y"), (2, "b", "")])
        self.no(BOTH, GOING, "d", 1, [(3, "d", "w"), (2, "b", "")])
        self.no(BOTH, GOING, "d", 1, [(3, "d", "z"), (2, "b", "")])

    def test_the_last_links_way(self):
        for way in ("w", "x", " ", None, 0, False, (), [], "v"):
            self.no(LINE, TWICE, "d", 1, [(6, "d", "w"), (4, "c", way)])
        for way in ("", "x", "v", "W", None, 0, True, (), ["w"], ("w",)):
            self.no(LINE, TWICE, "d", 1, [(6, "d", way), (4, "c", "")])

    def test_one_more_than_comes(self):
        for plan, picture, _ in (*scenes(60), (LINE, TWICE, None), (ROADS, BEGUN, None)):
            heard = heard_till(Field.of(plan, picture), 60)
            for caller in plan[1]:
                many = len([1 for _, one in heard if one == caller])
                if many and call_at(plan, picture, caller, many + 1) is None:
                    told = story(plan, picture, caller, many)
                    self.yes(plan, picture, caller, many, told)
                    self.no(plan, picture, caller, many + 1, told)
                    self.no(plan, picture, caller, many + 1, None)
                    self.no(plan, picture, caller, many + 1, [])

    def test_one_thing_otherwise(self):
        rows = [(LINE, TWICE, "e", 2), (LINE, TWICE, "d", 1), (ROADS, BEGUN, "d", 1), (BOTH, GOING, "c", 2)]
        rows.extend((plan, picture, "b", 3) for plan, picture, _ in winding_scenes(12))
        for plan, picture, caller, number in rows:
            heard = heard_till(Field.of(plan, picture), 150)
            told = story(plan, picture, caller, number)
            for thing in otherwise(told) + twice_otherwise(told, 300):
                due = right_story(plan, picture, heard, caller, number, thing)
                self.assertIs(shows_story(plan, picture, caller, number, thing), due, (plan, picture, thing))

    def test_another_name_of_the_heath_at_any_place(self):
        fits = 0
        rows = [(LINE, TWICE, "e", 2, story(LINE, TWICE, "e", 2)), (BOTH, GOING, "c", 2, story(BOTH, GOING, "c", 2))]
        rows.extend((ROADS, BEGUN, "d", 1, told) for told in STORIES)
        for plan, picture, caller, number, told in rows:
            heard = heard_till(Field.of(plan, picture), 40)
            for at, link in enumerate(told):
                for spot in (1, 2):
                    for name in (*plan[1], *[way[0] for way in plan[2]], ""):
                        thing = [*told[:at], (*link[:spot], name, *link[spot + 1:]), *told[at + 1:]]
                        due = right_story(plan, picture, heard, caller, number, thing)
                        fits += due and thing != told
                        self.assertIs(shows_story(plan, picture, caller, number, thing), due, thing)
        self.assertGreater(fits, 0)

    def test_beats_otherwise_at_several_places(self):
        dice = Dice(5)
        for plan, picture, caller, number in ((LINE, TWICE, "e", 2), (ROADS, BEGUN, "d", 1), (BOTH, GOING, "c", 2)):
            heard = heard_till(Field.of(plan, picture), 40)
            told = story(plan, picture, caller, number)
            for _ in range(200):
                by = dice.pick((1, -1, 2, 3, -3))
                first = dice.under(len(told))
                thing = [(beat + by * (at >= first), one, way) for at, (beat, one, way) in enumerate(told)]
                due = right_story(plan, picture, heard, caller, number, thing)
                self.assertIs(shows_story(plan, picture, caller, number, thing), due, thing)

    def test_true_and_false_for_numbers(self):
        plan = (3, ("a", "b"), (("u", "a", "b", 1),))
        self.yes(plan, (0, (0, None)), "b", 1, [(1, "b", "u"), (0, "a", "")])
        self.no(plan, (0, (0, None)), "b", 1, [(True, "b", "u"), (0, "a", "")])
        self.no(plan, (0, (0, None)), "b", 1, [(1, "b", "u"), (False, "a", "")])
        self.no(plan, (0, (0, None)), "b", 1, [(True, "b", "u"), (False, "a", "")])
        self.yes(plan, (1, (1, None)), "b", 1, [(2, "b", "u"), (1, "a", "")])
        self.no(plan, (1, (1, None)), "b", 1, [(2, "b", "u"), (True, "a", "")])

    def test_things_of_any_make(self):
        told = [(6, "d", "w"), (4, "c", "")]
        for thing in ANY:
            for number in (1, 2, 3):
                self.no(LINE, TWICE, "d", number, thing)
                self.no(LINE, TWICE, "a", number, thing)
            for at in range(2):
                self.no(LINE, TWICE, "d", 1, [*told[:at], thing, *told[at + 1:]])
                for spot in range(3):
                    link = (*told[at][:spot], thing, *told[at][spot + 1:])
                    if link != told[at]:
                        self.no(LINE, TWICE, "d", 1, [*told[:at], link, *told[at + 1:]])
            self.no(LINE, TWICE, "d", 1, [thing, thing])
            self.no(LINE, TWICE, "d", 1, [(thing, thing, thing), (thing, thing, thing)])

    def test_where_none_is_to_come_nothing_is(self):
        for caller in LINE[1]:
            for thing in (None, [], [(0, caller, "")], [(5, "a", "")], False, True, story(LINE, TWICE, "e", 2)):
                self.no(LINE, begun(LINE), caller, 1, thing)
        for thing in (None, [], [(0, "ash", "")], [(1, "ash", ""), (0, "ash", "")]):
            self.no(ALONE, (0, (0,)), "ash", 1, thing)

    def test_from_far_beats(self):
        for plan, picture, _ in winding_scenes(30):
            told = story(plan, picture, "a", 4)
            far = [(beat + FAR, one, way) for beat, one, way in told]
            self.yes(plan, shifted(picture, FAR), "a", 4, far)
            self.no(plan, shifted(picture, FAR), "a", 4, told)
            self.no(plan, picture, "a", 4, far)

    def test_numbers_to_100(self):
        for plan, picture, _ in (*winding_scenes(12), (*circling(3, [1] * 8, 2), None), (*circling(13, [6] * 8, 1), None)):
            for caller in plan[1]:
                told = story(plan, picture, caller, 100)
                for number in (99, 100, 101):
                    self.assertIs(shows_story(plan, picture, caller, number, told), number == 100)

    def test_no_caller_whatever_the_thing_and_the_number(self):
        for caller in ("heron", "", "u", "A"):
            for number in (1, 3, 100):
                for thing in (story(LINE, TWICE, "e", 2), *ANY):
                    self.refused(NoCaller, caller, shows_story, LINE, TWICE, caller, number, thing)
                    self.refused(NoCaller, caller, shows_story, LINE, begun(LINE), caller, number, thing)
        self.refused(NoCaller, "z", shows_story, thing=None, number=1, caller="z", plan=LINE, picture=TWICE)

    def test_what_is_handed_in_stays(self):
        for thing in (story(LINE, TWICE, "e", 2), [], None, [[6, "d", "w"], [4, "c", ""]], ([], [])):
            self.keeps(shows_story, LINE, TWICE, "e", 2, thing)

    def test_the_pictures_here_are_pictures(self):
        for plan, picture in ((LINE, TWICE), (BOTH, GOING), (ROADS, BEGUN)):
            self.assertIs(is_picture(plan, picture), True)

    def test_each_is_made_in_its_own_file(self):
        for made in (story, shows_story):
            self.assertEqual(made.__module__, "hoarseheath.stories")
