"""What the document promises over the whole program: arguments, what is told, refusals, sizes, and (a) to (h)."""

import importlib
import inspect
import itertools

from hoarseheath import errors
from hoarseheath.beats import run
from hoarseheath.coming import coming, last_call, still_from, to_come
from hoarseheath.cuts import cut_out, fewest_cuts, kindling, quenching
from hoarseheath.desk import answers
from hoarseheath.heath import Heath
from hoarseheath.heights import heights, shows_heights, shows_winding, winding
from hoarseheath.joins import parted, together
from hoarseheath.leaps import call_at, calls_in, picture_at
from hoarseheath.mates import mates
from hoarseheath.paces import binding, pace, prices, shows_pace
from hoarseheath.pictures import begun, free_beats, is_picture, on_ways, owed
from hoarseheath.plans import is_plan, parts
from hoarseheath.plantexts import plan_in, plan_text
from hoarseheath.rings import beats_round, is_ring, lean, wind
from hoarseheath.rounds import round_of
from hoarseheath.stories import shows_story, story
from tests.heaths import Asking, Dice, all_rings, in_lowest_terms, lists_in, scenes, winding_scenes
from tests.test_heath import KINDLING, Model, do, next_deed

FAR = 10 ** 12
PLAN = (
    3,
    ("a", "b", "c", "d", "e", "f"),
    (("u", "a", "c", 1), ("v", "c", "e", 1), ("w", "a", "e", 1), ("x", "b", "d", 1), ("y", "b", "d", 1)),
)
GOING = (2, (0, 2, 1, None, 2, None))
RING = [("a", "u"), ("c", "v"), ("e", "w")]
OTHER = (3, ("g", "h"), (("z", "g", "h", 1),))
LONG = (5, ("a", "b"), (("u", "a", "b", 2),))
TEXT = "heath 3\ncaller a\ncaller b\nway u a b 1"

# Of each function its file, the names of its arguments and some that may be handed in.
FUNCTIONS = {
    "is_plan": ("plans", {"thing": PLAN}),
    "ways_at": ("plans", {"plan": PLAN, "caller": "a"}),
    "parts": ("plans", {"plan": PLAN}),
    "beats_apart": ("plans", {"plan": PLAN, "one": "a", "other": "e"}),
    "is_picture": ("pictures", {"plan": PLAN, "thing": GOING}),
    "begun": ("pictures", {"plan": PLAN}),
    "free_beats": ("pictures", {"plan": PLAN, "picture": GOING}),
    "on_ways": ("pictures", {"plan": PLAN, "picture": GOING}),
    "owed": ("pictures", {"plan": PLAN, "picture": GOING}),
    "next_picture": ("beats", {"plan": PLAN, "picture": GOING}),
    "run": ("beats", {"plan": PLAN, "picture": GOING, "beats": 9}),
    "mates": ("mates", {"plan": PLAN, "picture": GOING, "way": "u", "beats": 9}),
    "is_ring": ("rings", {"plan": PLAN, "thing": RING}),
    "beats_round": ("rings", {"plan": PLAN, "ring": RING}),
    "lean": ("rings", {"plan": PLAN, "picture": GOING, "way": "w"}),
    "wind": ("rings", {"plan": PLAN, "picture": GOING, "ring": RING}),
    "heights": ("heights", {"plan": PLAN, "picture": GOING, "caller": "b"}),
    "winding": ("heights", {"plan": PLAN, "picture": GOING, "caller": "a"}),
    "shows_heights": ("heights", {"plan": PLAN, "picture": GOING, "caller": "b", "thing": [("b", 0), ("d", 1)]}),
    "shows_winding": ("heights", {"plan": PLAN, "picture": GOING, "caller": "a", "thing": RING}),
    "to_come": ("coming", {"plan": PLAN, "picture": GOING, "caller": "d"}),
    "coming": ("coming", {"plan": PLAN, "picture": GOING, "caller": "d"}),
    "last_call": ("coming", {"plan": PLAN, "picture": (2, (None, 2, None, None, None, None))}),
    "still_from": ("coming", {"plan": PLAN, "picture": (2, (None, 2, None, None, None, None))}),
    "pace": ("paces", {"plan": PLAN, "picture": GOING, "caller": "a"}),
    "binding": ("paces", {"plan": PLAN, "picture": GOING, "caller": "a"}),
    "prices": ("paces", {"plan": PLAN, "picture": GOING, "caller": "a"}),
    "shows_pace": ("paces", {
        "plan": PLAN, "picture": GOING, "caller": "a", "thing": ((3, 1), RING, [("a", 0), ("c", 1), ("e", 2)]),
    }),
    "round_of": ("rounds", {"plan": PLAN, "picture": GOING, "caller": "a"}),
    "picture_at": ("leaps", {"plan": PLAN, "picture": GOING, "beat": FAR}),
    "calls_in": ("leaps", {"plan": PLAN, "picture": GOING, "caller": "a", "first": 7, "behind": FAR}),
    "call_at": ("leaps", {"plan": PLAN, "picture": GOING, "caller": "a", "number": 10 ** 9}),
    "story": ("stories", {"plan": PLAN, "picture": GOING, "caller": "c", "number": 2}),
    "shows_story": ("stories", {
        "plan": PLAN, "picture": GOING, "caller": "a", "number": 1, "thing": [(3, "a", "w"), (2, "e", "")],
    }),
    "cut_out": ("cuts", {"plan": PLAN, "ways": ["y", "u"]}),
    "quenching": ("cuts", {"plan": PLAN, "picture": GOING, "caller": "a"}),
    "fewest_cuts": ("cuts", {"plan": PLAN, "picture": GOING, "caller": "a"}),
    "kindling": ("cuts", {"plan": PLAN, "way": "u"}),
    "together": ("joins", {"one": PLAN, "other": OTHER}),
    "pictures_together": ("joins", {"one": PLAN, "other": OTHER, "picture": GOING, "second": (2, (1, 2))}),
    "parted": ("joins", {"plan": LONG, "way": "u", "caller": "c", "name": "v", "beats": 1}),
    "times": ("joins", {"plan": LONG, "number": 2}),
    "plan_text": ("plantexts", {"plan": PLAN}),
    "plan_in": ("plantexts", {"text": TEXT}),
    "answers": ("desk", {"text": TEXT + "\nbegin\ncall a\ngo 9\nlasts"}),
}

# Of each method of a Heath the names of its arguments; those behind * stand behind a blank one.
METHODS = {
    "__init__": ("rest", "", "callers", "ways"),
    "call": ("caller",), "cut": ("way",), "lay": ("name", "one", "other", "beats"), "settle": ("caller",),
    "leave": ("caller",), "go": ("", "beats"), "rest": (), "undo": (), "plan": (), "picture": (), "beat": (),
    "called": ("caller",), "wind": ("ring",), "is_still": (), "to_come": ("caller",), "pace": ("caller",), "owed": (),
    "deeds": (), "as_of": ("many",), "twin": (), "log": (), "is_open": (),
}

BASES = {
    LookupError: ("NoCaller", "NoWay", "NoDeed", "There"),
    ValueError: ("BadPlan", "BadBeats", "BadRow", "Unlike", "Gone"),
    OverflowError: ("TooMany", "Endless"),
    RuntimeError: ("Hoarse", "Apart", "Tied"),
}


def function(name):
    return getattr(importlib.import_module("hoarseheath." + FUNCTIONS[name][0]), name)


class Arguments(Asking):
    def test_each_function_is_made_in_the_file_that_lists_it(self):
        for name, (file, _) in FUNCTIONS.items():
            self.assertEqual((function(name).__name__, function(name).__module__), (name, "hoarseheath." + file))

    def test_the_names_of_the_arguments_in_their_order(self):
        for name, (_, given) in FUNCTIONS.items():
            asked = inspect.signature(function(name)).parameters.values()
            self.assertEqual([one.name for one in asked], list(given))
            self.assertTrue(all(one.kind is one.POSITIONAL_OR_KEYWORD and one.default is one.empty for one in asked))

    def test_by_place_and_by_name_in_any_order(self):
        for name, (_, given) in FUNCTIONS.items():
            ask = function(name)
            due = repr(ask(*given.values()))
            for names in itertools.permutations(given):
                self.assertEqual(repr(ask(**{one: given[one] for one in names})), due, name)
            for many in range(len(given)):
                self.assertEqual(repr(ask(*list(given.values())[:many], **dict(list(given.items())[many:]))), due, name)

    def test_a_heaths_methods(self):
        for name, due in METHODS.items():
            asked = list(inspect.signature(vars(Heath)[name]).parameters.values())[1:]
            told = [one.name for one in asked if one.kind is one.POSITIONAL_OR_KEYWORD]
            alone = [one.name for one in asked if one.kind is one.KEYWORD_ONLY]
            self.assertEqual((*told, *[""][:len(alone)], *alone), due, name)
            left = {one.name: one.default for one in asked if one.default is not one.empty}
            self.assertEqual(repr(left), repr({"__init__": {"ways": ()}, "go": {"beats": 1}}.get(name, {})))

    def test_a_list_may_be_handed_in_as_a_tuple(self):
        self.same(beats_round(PLAN, tuple(RING)), 3)
        self.same(wind(PLAN, GOING, tuple(RING)), 1)
        self.same(cut_out(PLAN, ("y", "u")), cut_out(PLAN, ["y", "u"]))
        heath = Heath(3, callers=list(PLAN[1]), ways=list(PLAN[2]))
        self.assertTrue(heath == Heath(3, callers=PLAN[1], ways=PLAN[2]))
        self.same(heath.wind(tuple(RING)), 0)

    def test_but_where_a_thing_is_looked_at(self):
        self.same((is_ring(PLAN, RING), is_ring(PLAN, tuple(RING))), (True, False))
        self.same((is_plan(PLAN), is_plan(list(PLAN))), (True, False))
        self.same((is_picture(PLAN, GOING), is_picture(PLAN, list(GOING))), (True, False))
        for name in ("shows_heights", "shows_winding", "shows_story"):
            given = FUNCTIONS[name][1]
            self.same(function(name)(**given), True)
            self.same(function(name)(**{**given, "thing": tuple(given["thing"])}), False)


class Told(Asking):
    def test_two_askings_tell_two_lists_and_what_is_handed_in_stays(self):
        for name, (_, given) in FUNCTIONS.items():
            with self.subTest(name):
                self.keeps(function(name), *given.values())

    def test_changing_what_was_told_changes_no_other_answer(self):
        due = {name: repr(function(name)(*given.values())) for name, (_, given) in FUNCTIONS.items()}
        for name, (_, given) in FUNCTIONS.items():
            for row in lists_in(function(name)(*given.values())):
                row.clear()
                row.extend(["more", ["and more"]])
            for other, (_, given_there) in FUNCTIONS.items():
                self.assertEqual(repr(function(other)(*given_there.values())), due[other], (name, other))

    def test_true_or_false_itself(self):
        for name, (_, given) in FUNCTIONS.items():
            if name.startswith(("is_", "shows_")):
                self.assertIs(function(name)(**given), True)
                for thing in (None, 0, 1, "", "a", [], (), True, False, [[]], ((),), [None]):
                    self.assertIs(function(name)(**{**given, "thing": thing}), False)

    def test_what_was_told_may_be_handed_in_again(self):
        heath = Heath(3, callers=PLAN[1], ways=PLAN[2])
        self.same(heath.plan(), plan_in(str(heath)))
        self.same(plan_text(plan_in(plan_text(PLAN))), plan_text(PLAN))
        later = picture_at(PLAN, GOING, FAR)
        self.assertIs(is_picture(PLAN, later), True)
        self.same(picture_at(PLAN, later, FAR + 3), (FAR + 3, tuple(
            last if caller in "bdf" else last + 3 for caller, last in zip(PLAN[1], later[1])
        )))
        self.same(cut_out(PLAN, quenching(PLAN, GOING, "a"))[2], PLAN[2][3:])
        self.same(wind(PLAN, GOING, binding(PLAN, GOING, "a")), 1)

    def test_whole_numbers_alone(self):
        for name, (_, given) in FUNCTIONS.items():
            for number in numbers_in(function(name)(*given.values())):
                self.assertIn(type(number), (int, str, bool, type(None)), name)
            if not name.startswith(("is_", "shows_")):
                self.assertNotIn(bool, [type(number) for number in numbers_in(function(name)(*given.values()))], name)


def numbers_in(thing):
    """All that stands within a thing and is no list or tuple."""
    if isinstance(thing, (list, tuple)):
        return [number for inner in thing for number in numbers_in(inner)]
    return [thing]


class Refused(Asking):
    def test_each_is_straight_under_its_base_with_the_one_field(self):
        for base, names in BASES.items():
            for name in names:
                refused = getattr(errors, name)
                self.assertEqual(refused.__bases__, (base,))
                self.assertEqual(vars(refused("bell")), {"what": "bell"})

    def test_each_that_asks_of_one_caller(self):
        for name, (_, given) in FUNCTIONS.items():
            if "caller" in given and name != "parted":
                self.refused(errors.NoCaller, "heron", function(name), **{**given, "caller": "heron"})

    def test_each_that_asks_of_one_way(self):
        for name, (_, given) in FUNCTIONS.items():
            if "way" in given:
                self.refused(errors.NoWay, "moor", function(name), **{**given, "way": "moor"})


class Sizes(Asking):
    def test_all_of_eight_callers_and_ten_ways(self):
        most = 0
        for plan, picture, _ in winding_scenes(120):
            if (len(plan[1]), len(plan[2])) != (8, 10):
                continue
            most += 1
            self.assertIs(is_plan(plan), True)
            now, calls = run(plan, picture, 400)
            self.same(now, picture_at(plan, picture, picture[0] + 400))
            for caller in plan[1]:
                mine = [beat for beat, one in calls if one == caller]
                self.same(call_at(plan, picture, caller, len(mine)), mine[-1])
                self.same(calls_in(plan, picture, caller, 0, picture[0] + 401), len(mine))
            for way in plan[2]:
                rows = mates(plan, picture, way[0], 400)
                self.assertTrue(all(abs(one - other) <= way[3] for one, other in rows if None not in (one, other)))
        self.assertGreater(most, 5)

    def test_beats_to_the_last(self):
        heath = Heath(24, callers="abcdefgh", ways=[(name, *ends, 6) for name, *ends in zip("klmnopq", "abcdefg", "bcdefgh")])
        heath.go(beats=FAR)
        heath.call("a")
        plan, picture = heath.plan(), heath.picture()
        self.same(coming(plan, picture, "a"), [(FAR + 6 * at, one) for at, one in enumerate("bcdefgh", 1)])
        self.same((last_call(plan, picture), still_from(plan, picture)), (FAR + 42, FAR + 48))
        self.same(heights(plan, picture, "a"), [("a", 0), *[(one, 1) for one in "bcdefgh"]])
        self.same(story(plan, picture, "h", 1)[-1], (FAR, "a", ""))
        self.same((heath.rest(), heath.undo(), heath.beat()), (FAR + 48, True, FAR))

    def test_sixty_deeds_and_more(self):
        heath = Heath(3, callers="a")
        for _ in range(70):
            heath.call("a")
            heath.go(beats=3)
        self.same((heath.deeds(), heath.called("a"), heath.beat()), (140, 70, 210))


class Letters(Asking):
    """The promises (a) to (h) where several files are to agree."""

    def test_a_each_call_has_just_one_mate(self):
        for plan, picture, _ in (*scenes(80), *winding_scenes(40)):
            _, calls = run(plan, picture, 120)
            for name, one, other, beats in plan[2]:
                rows = mates(plan, picture, name, 120)
                for caller, spot in ((one, 0), (other, 1)):
                    mine = [beat for beat, here in calls if here == caller]
                    told = [row[spot] for row in rows if row[spot] is not None and row[spot] > picture[0]]
                    self.same(told, mine)
                for early, late in rows:
                    if None not in (early, late):
                        self.assertLessEqual(abs(early - late), beats)

    def test_b_the_wind_of_a_ring_never_changes_while_it_lies(self):
        kept = 0
        for seed in range(60):
            dice = Dice(1000 + seed)
            first = KINDLING if seed % 3 else ()
            rest, callers = (3, "abcde") if first else (3 + dice.under(6), "abcd")
            heath, model = Heath(rest, callers=callers), Model(rest, callers, ())
            winds = {}
            for at in range(50):
                deed = first[at] if at < len(first) else next_deed(dice, model.fields[-1])
                if deed[0] == "undo":
                    continue
                self.same(do(heath, *deed), model.do(*deed))
                # A deed cuts or lays one way at most: a ring that lies ahead of it and behind it lay all along.
                ahead, winds = winds, {repr(ring): heath.wind(ring) for ring in all_rings(heath.plan())}
                for ring in all_rings(heath.plan()):
                    self.assertLessEqual(abs(heath.wind(ring)) * rest, beats_round(heath.plan(), ring))
                    if repr(ring) in ahead:
                        self.same(heath.wind(ring), ahead[repr(ring)])
                        kept += 1
        self.assertGreater(kept, 2000)

    def test_c_heights_or_a_ring_never_both(self):
        for plan, picture, _ in (*scenes(80), *winding_scenes(40)):
            for caller in plan[1]:
                told, ring = heights(plan, picture, caller), winding(plan, picture, caller)
                self.assertNotEqual(told is None, ring is None)
                self.same(to_come(plan, picture, caller) is None, ring is not None)
                self.same(round_of(plan, picture, caller) is None, ring is None)
                self.same(fewest_cuts(plan, picture, caller) == [], ring is None)
                self.same(shows_heights(plan, picture, caller, told), told is not None)
                self.same(shows_winding(plan, picture, caller, ring), ring is not None)

    def test_d_all_at_one_pace(self):
        for plan, picture, _ in winding_scenes(60):
            first, many, often = round_of(plan, picture, "a")
            told = pace(plan, picture, "a")
            self.same(told, in_lowest_terms(many, often))
            self.assertIs(shows_pace(plan, picture, "a", (told, binding(plan, picture, "a"), prices(plan, picture, "a"))), True)
            part = next(part for part in parts(plan) if "a" in part)
            for caller in part:
                self.same(calls_in(plan, picture, caller, first, first + many * 10 ** 6), often * 10 ** 6)

    def test_e_far_beats_are_what_beats_one_by_one_come_to(self):
        for plan, picture, _ in (*scenes(30), *winding_scenes(30)):
            there = picture_at(plan, picture, FAR)
            later, calls = run(plan, there, 50)
            self.same(later, picture_at(plan, picture, FAR + 50))
            for caller in plan[1]:
                due = len([1 for _, one in calls if one == caller])
                self.same(calls_in(plan, picture, caller, FAR + 1, FAR + 51), due)
            self.same(len(free_beats(plan, there)), len(plan[1]))
            self.same(on_ways(plan, later) == [], on_ways(plan, picture_at(plan, there, FAR + 50)) == [])

    def test_f_of_each_call_how_it_came(self):
        for plan, picture, _ in (*scenes(30), *winding_scenes(15)):
            _, calls = run(plan, picture, 60)
            many = {}
            for beat, caller in calls:
                many[caller] = many.get(caller, 0) + 1
                told = story(plan, picture, caller, many[caller])
                self.same(told[0][:2], (beat, caller))
                self.assertIs(shows_story(plan, picture, caller, many[caller], told), True)

    def test_kindled_by_deeds(self):
        some = 0
        for plan, _, _ in winding_scenes(60):
            for name, one, other, beats in plan[2]:
                number = kindling(plan, name)
                if number is not None:
                    some += 1
                    left = cut_out(plan, [name])
                    heath = Heath(left[0], callers=left[1], ways=left[2])
                    heath.call(one)
                    heath.go(beats=number)
                    heath.lay(name, other, one, beats)
                    self.same((heath.plan(), heath.to_come(one)), (plan, None))
                    self.same(heath.deeds(), 3)
                    heath.cut(fewest_cuts(heath.plan(), heath.picture(), one)[0])
                    self.same(heath.pace(one), None)
        self.assertGreater(some, 50)

    def test_put_together_and_told_of_each(self):
        told = together(PLAN, OTHER)
        self.same(parts(told), [*parts(PLAN), ["g", "h"]])
        self.same(owed(told, begun(told)), [])
        self.same(lean(PLAN, GOING, "u"), lean(told, (2, (*GOING[1], None, None)), "u"))
        self.same(parted(LONG, "u", "c", "v", 1)[1], ("a", "b", "c"))
        self.same(answers(plan_text(told) + "\nbegin\ncall g\ngo 1\nbeat"), ["done", "1", "1"])
