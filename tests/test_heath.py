import copy
import itertools
import re

from hoarseheath.errors import Apart, BadPlan, Endless, Hoarse, NoCaller, NoDeed, NoWay, Tied
from hoarseheath.heath import Heath
from hoarseheath.leaps import calls_in, picture_at
from hoarseheath.paces import pace
from hoarseheath.pictures import begun, is_picture, owed
from hoarseheath.plans import is_plan
from hoarseheath.plantexts import plan_text
from hoarseheath.rings import wind
from tests.heaths import NAMES, Asking, Dice, Far, Field, all_rings, far_picture, winding_scenes

PLAN = (13, ("ash", "elm", "fir", "oak"), (("brook", "ash", "oak", 6), ("lane", "ash", "elm", 2), ("path", "elm", "oak", 3)))
FIVE = tuple((name, one, other, 1) for name, one, other in zip("uvwxy", "abcda", "bcdee"))
KINDLING = (*[("lay", *way) for way in FIVE[:4]], ("call", "a"), ("go", 2), ("lay", *FIVE[4]))
FAR = 10 ** 12
DEEDS = ("call", "cut", "lay", "settle", "leave", "go", "rest", "undo")


def made(plan=PLAN):
    return Heath(plan[0], callers=plan[1], ways=plan[2])


def kindled():
    """A heath of five in a ring, round which a call goes on for ever."""
    heath = Heath(3, callers="abcde", ways=FIVE[:4])
    heath.call("a")
    heath.go(beats=2)
    heath.lay("y", "a", "e", 1)
    return heath


class Model:
    """What a Heath is held against: a field that keeps each call, and copies of it as it was behind each deed."""

    def __init__(self, rest, callers, ways):
        field = Field(rest, callers)
        for way in ways:
            field.add_way(way)
        self.fields = [field]
        self.stand = []
        self.rows = []

    def do(self, word, *given):
        """What a deed tells, or the pair (class, what) of its refusal."""
        self.rows.append(("in", word))
        told = self.undo() if word == "undo" else self.tried(word, *given)
        self.rows.append(("out", word))
        return told

    def undo(self):
        if len(self.fields) == 1:
            return False
        self.fields.pop()
        self.stand.pop()
        return True

    def tried(self, word, *given):
        field = copy.deepcopy(self.fields[-1])
        refused = getattr(self, "no_" + word)(field, *given)
        if refused:
            return refused
        told = getattr(self, "do_" + word)(field, *given)
        self.fields.append(field)
        self.stand.append((word, *given))
        return told

    def no_call(self, field, caller):
        if caller not in field.called:
            return NoCaller, caller
        return None if field.may_call(caller) else (Hoarse, caller)

    def do_call(self, field, caller):
        field.call(caller)

    def no_cut(self, field, way):
        return None if way in field.ways else (NoWay, way)

    def do_cut(self, field, way):
        field.cut(way)

    def no_lay(self, field, name, one, other, beats):
        for caller in (one, other):
            if caller not in field.called:
                return NoCaller, caller
        if not re.fullmatch("[a-z]{1,8}", name) or name in field.ways or one == other or len(field.ways) == 10:
            return BadPlan, name
        if not 1 <= beats <= 6 or 2 * beats + 1 > field.rest:
            return BadPlan, name
        if field.would_owe(one, other, beats) or field.would_owe(other, one, beats):
            return Apart, name
        return (Apart, name) if abs(field.free(one) - field.free(other)) > beats else None

    def do_lay(self, field, name, one, other, beats):
        field.add_way((name, *sorted((one, other)), beats))

    def no_settle(self, field, caller):
        good = re.fullmatch("[a-z]{1,8}", caller) and caller not in field.called and len(field.called) < 8
        return None if good else (BadPlan, caller)

    def do_settle(self, field, caller):
        field.called[caller] = []

    def no_leave(self, field, caller):
        if caller not in field.called:
            return NoCaller, caller
        tied = len(field.called) == 1 or any(caller in way[1:3] for way in field.ways.values())
        return (Tied, caller) if tied else None

    def do_leave(self, field, caller):
        del field.called[caller]

    def no_go(self, field, beats):
        return None

    def do_go(self, field, beats):
        return len(field.go(beats))

    def no_rest(self, field):
        endless = [caller for caller in sorted(field.called) if field.to_come(caller) is None]
        return (Endless, endless[0]) if endless else None

    def do_rest(self, field):
        while field.flying:
            field.go()
        return field.beat


def do(heath, word, *given):
    """A deed by hand, with what it tells, or the pair (class, what) of its refusal."""
    try:
        return heath.go(beats=given[0]) if word == "go" else getattr(heath, word)(*given)
    except (NoCaller, NoWay, Hoarse, BadPlan, Apart, Tied, Endless) as refused:
        return type(refused), refused.what


def next_deed(dice, field):
    """A deed, now and then one that's refused."""
    callers = sorted(field.called)
    ways = sorted(field.ways)
    some = (*callers, *callers, *callers, dice.pick(("heron", "", "a")))
    kind = dice.under(20)
    if kind < 5:
        free = [caller for caller in callers if field.may_call(caller)]
        return "call", dice.pick(free) if free and dice.under(3) else dice.pick(some)
    if kind < 6:
        return "cut", dice.pick((*ways, "moor"))
    if kind < 10:
        name = dice.pick("klmnopqrstuvw" if dice.under(5) else (*ways, "", "Bad", "toolongby", "a1"))
        return "lay", name, dice.pick(some), dice.pick(some), dice.under(8) if dice.under(4) == 0 else 1 + dice.under(6)
    if kind < 11:
        return "settle", dice.pick((*"abcdefgh", "ash", "", "Elm", "toolongby", *callers[:1]))
    if kind < 12:
        return "leave", dice.pick(some)
    if kind < 16:
        return "go", dice.under(7)
    if kind < 17:
        return ("rest",)
    if kind < 18:
        return "go", 10 + dice.under(40)
    return ("undo",)


class Kept(Asking):
    """Checks that hold a Heath against its model."""

    def is_as(self, heath, field):
        plan, picture = field.plan(), field.picture()
        self.same((heath.plan(), heath.picture(), heath.beat()), (plan, picture, picture[0]))
        self.same([heath.called(one) for one in plan[1]], [len(field.called[one]) for one in plan[1]])
        self.same(len(heath), len(plan[1]))

    def asks_as(self, heath, field):
        plan, picture = field.plan(), field.picture()
        self.same(str(heath), plan_text(plan))
        self.same(heath.is_still(), not field.flying)
        self.same(heath.owed(), owed(plan, picture))
        for one in plan[1]:
            calls = field.to_come(one)
            self.same(heath.to_come(one), None if calls is None else len([1 for call in calls if call[1] == one]))
            self.same(heath.pace(one), None if calls is not None else field.pace(one))
        for ring in all_rings(plan)[:12]:
            self.same(heath.wind(ring), field.wind(ring))

    def story(self, seed, many, first=()):
        """So many deeds done to a Heath and to its model, all held against one another as they go."""
        dice = Dice(seed)
        callers = "abcde" if first else NAMES[:1 + dice.under(7)]
        rest = 3 if first else 3 + dice.under(22)
        heath, model = Heath(rest, callers=callers), Model(rest, callers, ())
        model.refusals = []
        for at in range(many):
            deed = first[at] if at < len(first) else next_deed(dice, model.fields[-1])
            ahead = repr((heath.plan(), heath.picture(), heath.deeds()))
            told, due = do(heath, *deed), model.do(*deed)
            self.same(told, due)
            self.is_as(heath, model.fields[-1])
            if isinstance(due, tuple):
                model.refusals.append((deed[0], due[0]))
                self.assertEqual(repr((heath.plan(), heath.picture(), heath.deeds())), ahead)
            self.same((heath.deeds(), heath.is_open()), (len(model.stand), True))
            self.same(heath.log(), model.rows)
        return heath, model


class Made(Asking):
    def test_ordinary(self):
        heath = made()
        self.same(heath.plan(), PLAN)
        self.same(heath.picture(), (0, (None,) * 4))
        self.same((heath.beat(), heath.deeds(), heath.log()), (0, 0, []))
        self.same([heath.called(caller) for caller in PLAN[1]], [0, 0, 0, 0])
        self.same((len(heath), str(heath)), (4, plan_text(PLAN)))
        self.same((heath.is_still(), heath.is_open(), heath.owed()), (True, True, []))

    def test_by_name(self):
        self.same(Heath(rest=13, callers=PLAN[1], ways=PLAN[2]).plan(), PLAN)
        self.same(Heath(ways=PLAN[2], callers=PLAN[1], rest=13).plan(), PLAN)
        for given in ((), (13, PLAN[1]), (13, PLAN[1], PLAN[2])):
            with self.assertRaises(TypeError):
                Heath(*given)

    def test_without_ways(self):
        self.same(Heath(3, callers=["ash"]).plan(), (3, ("ash",), ()))

    def test_callers_ways_and_each_ways_two_in_any_order(self):
        for callers in itertools.permutations(PLAN[1]):
            self.same(Heath(13, callers=callers).plan(), (13, PLAN[1], ()))
            self.same(Heath(13, callers=list(callers), ways=list(PLAN[2])).plan(), PLAN)
        for ways in itertools.permutations(PLAN[2]):
            for turned in itertools.product((False, True), repeat=3):
                rows = [(name, other, one, beats) if turn else (name, one, other, beats)
                        for (name, one, other, beats), turn in zip(ways, turned)]
                self.same(Heath(13, callers=PLAN[1][::-1], ways=rows).plan(), PLAN)
                self.same(Heath(13, callers=PLAN[1], ways=tuple(rows)).plan(), PLAN)

    def test_bad_plan(self):
        for rest in (-1, 0, 1, 2, 25, FAR, -FAR):
            self.refused(BadPlan, None, Heath, rest, callers=("a", "b"))
        for callers in (
            (), [], ("a", "a"), ("a", "b", "a"), ("",), ("A",), ("a1",), ("toolongby",), ("a", "b c"), tuple("abcdefghi"),
        ):
            self.refused(BadPlan, None, Heath, 13, callers=callers)
        good = ("u", "a", "b", 1)
        for way in (
            ("u", "a", "a", 1), ("u", "a", "c", 1), ("u", "c", "b", 1), ("", "a", "b", 1), ("U", "a", "b", 1),
            ("toolongby", "a", "b", 1), ("u", "a", "b", 0), ("u", "a", "b", -1), ("u", "a", "b", 7), ("u", "b", "b", 2),
        ):
            self.refused(BadPlan, None, Heath, 24, callers=("a", "b"), ways=[way])
            self.refused(BadPlan, None, Heath, 24, callers=("a", "b"), ways=(way, ("v", "a", "b", 1)))
        self.refused(BadPlan, None, Heath, 24, callers=("a", "b"), ways=[good, good])
        self.refused(BadPlan, None, Heath, 24, callers=("a", "b"), ways=[good, ("u", "b", "a", 2)])
        for beats in range(1, 7):
            self.refused(BadPlan, None, Heath, 2 * beats, callers=("a", "b"), ways=[("u", "a", "b", beats)])
            self.same(Heath(2 * beats + 1, callers=("a", "b"), ways=[("u", "b", "a", beats)]).plan()[2][0][3], beats)
        ways = [(name, "a", "b", 1) for name in "klmnopqrstu"]
        self.refused(BadPlan, None, Heath, 24, callers=("a", "b"), ways=ways)
        self.same(len(Heath(24, callers=("a", "b"), ways=ways[1:]).plan()[2]), 10)
        self.assertEqual(BadPlan.__bases__, (ValueError,))

    def test_what_is_handed_in_stays_and_is_not_kept(self):
        callers, ways = ["oak", "ash", "elm", "fir"], [("path", "oak", "elm", 3)]
        heath = Heath(13, callers=callers, ways=ways)
        self.same((callers, ways), (["oak", "ash", "elm", "fir"], [("path", "oak", "elm", 3)]))
        callers.clear()
        ways.clear()
        self.same(heath.plan(), (13, PLAN[1], (("path", "elm", "oak", 3),)))

    def test_two_heaths_are_each_its_own(self):
        one, other = made(), made()
        one.call("ash")
        self.same((one.log(), other.log()), ([("in", "call"), ("out", "call")], []))
        self.same((one.deeds(), other.deeds()), (1, 0))
        self.same((one.picture(), other.picture()), ((0, (0, None, None, None)), (0, (None,) * 4)))


class Calls(Kept):
    def test_ordinary(self):
        heath = made()
        self.same(heath.call("ash"), None)
        self.same(heath.picture(), (0, (0, None, None, None)))
        self.same((heath.called("ash"), heath.called("elm")), (1, 0))
        self.same(heath.owed(), [("brook", "oak"), ("lane", "elm")])
        self.same(heath.go(beats=9), 2)
        self.same(heath.picture(), (9, (0, 2, None, 5)))
        self.same([heath.called(caller) for caller in PLAN[1]], [1, 1, 0, 1])

    def test_by_name(self):
        heath = made()
        heath.call(caller="oak")
        self.same(heath.picture(), (0, (None, None, None, 0)))

    def test_hoarse(self):
        heath = made()
        heath.call("ash")
        self.refused(Hoarse, "ash", heath.call, "ash")
        heath.go(beats=12)
        self.refused(Hoarse, "ash", heath.call, "ash")
        self.refused(Hoarse, "elm", heath.call, caller="elm")
        heath.go()
        self.same(heath.call("ash"), None)
        self.same(heath.picture(), (13, (13, 2, None, 5)))
        self.assertEqual(Hoarse.__bases__, (RuntimeError,))

    def test_free_just_at_rest(self):
        for rest in range(3, 25):
            heath = Heath(rest, callers="a")
            heath.call("a")
            heath.go(beats=rest - 1)
            self.refused(Hoarse, "a", heath.call, "a")
            heath.go()
            heath.call("a")
            self.same(heath.picture(), (rest, (rest,)))

    def test_no_caller(self):
        for caller in ("heron", "", "lane", "ASH"):
            self.refused(NoCaller, caller, made().call, caller)

    def test_a_call_ahead_of_one_that_is_owed(self):
        heath = made()
        heath.call("ash")
        heath.go()
        heath.call("elm")
        self.same(heath.owed(), [("brook", "oak"), ("path", "oak")])
        self.same(heath.go(), 0)


class Ways(Kept):
    def test_cut(self):
        heath = made()
        heath.call("ash")
        self.same(heath.cut("lane"), None)
        self.same(heath.plan(), (13, PLAN[1], (PLAN[2][0], PLAN[2][2])))
        self.same(heath.picture(), (0, (0, None, None, None)))
        self.same(heath.go(beats=9), 2)
        self.same(heath.picture(), (9, (0, 9, None, 6)))

    def test_what_is_on_a_way_that_is_cut_is_gone(self):
        heath = Heath(13, callers=("a", "b"), ways=[("u", "a", "b", 6)])
        heath.call("a")
        heath.go(beats=5)
        heath.cut(way="u")
        self.same(heath.is_still(), True)
        self.same(heath.go(beats=9), 0)

    def test_no_way(self):
        for way in ("moor", "", "ash", "LANE"):
            self.refused(NoWay, way, made().cut, way)
        heath = made()
        heath.cut("lane")
        self.refused(NoWay, "lane", heath.cut, "lane")

    def test_lay(self):
        heath = made()
        self.same(heath.lay("moor", "fir", "ash", 4), None)
        self.same(heath.plan()[2], (PLAN[2][0], PLAN[2][1], ("moor", "ash", "fir", 4), PLAN[2][2]))
        heath.lay(name="alley", one="ash", other="fir", beats=1)
        heath.lay(beats=1, other="elm", one="oak", name="zoo")
        self.same([way[0] for way in heath.plan()[2]], ["alley", "brook", "lane", "moor", "path", "zoo"])
        self.same(heath.plan()[2][0], ("alley", "ash", "fir", 1))
        self.same(heath.plan()[2][-1], ("zoo", "elm", "oak", 1))
        heath.call("fir")
        self.same(heath.go(beats=1), 1)

    def test_lay_no_caller(self):
        heath = made()
        self.refused(NoCaller, "heron", heath.lay, "moor", "heron", "ash", 1)
        self.refused(NoCaller, "heron", heath.lay, "moor", "ash", "heron", 1)
        self.refused(NoCaller, "kite", heath.lay, "moor", "kite", "heron", 1)
        self.refused(NoCaller, "heron", heath.lay, "moor", "heron", "heron", 1)
        for name in ("moor", "lane", "", "Bad"):
            for beats in (0, 1, 7):
                self.refused(NoCaller, "heron", heath.lay, name, "heron", "kite", beats)
                self.refused(NoCaller, "kite", heath.lay, name, "ash", "kite", beats)

    def test_lay_bad_plan(self):
        heath = made()
        for name in ("lane", "brook", "path", "", "Bad", "toolongby", "a1", "a b"):
            self.refused(BadPlan, name, heath.lay, name, "ash", "fir", 1)
        self.refused(BadPlan, "moor", heath.lay, "moor", "ash", "ash", 1)
        for beats in (0, -1, 7, FAR, -FAR):
            self.refused(BadPlan, "moor", heath.lay, "moor", "ash", "fir", beats)
        for beats in range(1, 7):
            if beats > 1:
                other = Heath(2 * beats, callers=("a", "b"))
                self.refused(BadPlan, "u", other.lay, "u", "a", "b", beats)
            other = Heath(2 * beats + 1, callers=("a", "b"))
            self.same(other.lay("u", "b", "a", beats), None)

    def test_lay_ten_at_most(self):
        heath = Heath(13, callers=("a", "b"))
        for name in "klmnopqrst":
            heath.lay(name, "a", "b", 1)
        self.refused(BadPlan, "u", heath.lay, "u", "a", "b", 1)
        heath.cut("m")
        self.same(heath.lay("u", "a", "b", 1), None)
        self.same([way[0] for way in heath.plan()[2]], list("klnopqrstu"))

    def test_apart_where_somebody_would_owe(self):
        for one, other in (("a", "b"), ("b", "a")):
            for beats in range(1, 7):
                heath = Heath(24, callers=("a", "b"))
                heath.call(one)
                for later in range(beats):
                    self.refused(Apart, "u", heath.lay, "u", "a", "b", beats)
                    self.refused(Apart, "u", heath.lay, "u", "b", "a", beats)
                    heath.go()
        self.assertEqual(Apart.__bases__, (RuntimeError,))

    def test_apart_where_they_would_be_free_too_far_apart(self):
        for beats in range(1, 7):
            heath = Heath(24, callers=("a", "b"))
            heath.call("a")
            heath.go(beats=beats)
            while heath.beat() < 24 - beats:
                self.refused(Apart, "u", heath.lay, "u", "b", "a", beats)
                heath.go()
            self.same(heath.lay("u", "b", "a", beats), None)
            self.same(heath.go(beats=9), 0)

    def test_calls_near_to_one_another(self):
        for beats in range(1, 7):
            for later in range(9):
                heath, model = Heath(13, callers=("a", "b")), Model(13, ("a", "b"), ())
                for deed in (("call", "a"), ("go", later), ("call", "b"), ("go", 1), ("lay", "u", "a", "b", beats), ("go", 9)):
                    self.same(do(heath, *deed), model.do(*deed))
                    self.is_as(heath, model.fields[-1])

    def test_bad_plan_ahead_of_apart(self):
        heath = made()
        heath.call("ash")
        for given in (("lane", "ash", "fir", 2), ("Bad", "ash", "fir", 2), ("moor", "ash", "ash", 2), ("moor", "ash", "fir", 7)):
            self.refused(BadPlan, given[0], heath.lay, *given)
        self.refused(Apart, "moor", heath.lay, "moor", "ash", "fir", 2)

    def test_a_way_laid_again(self):
        # What a called counts as on its way again, and finds b, that called since, hoarse.
        heath = Heath(13, callers=("a", "b"), ways=[("u", "a", "b", 6)])
        heath.call("a")
        heath.cut("u")
        self.refused(Apart, "u", heath.lay, "u", "a", "b", 6)
        heath.call("b")
        self.same(heath.lay("u", "b", "a", 6), None)
        self.same((heath.is_still(), heath.owed(), heath.go(beats=9)), (False, [], 0))
        self.same(heath.picture(), (9, (0, 0)))

    def test_kindled(self):
        heath = kindled()
        ring = [("a", "u"), ("b", "v"), ("c", "w"), ("d", "x"), ("e", "y")]
        self.same((heath.wind(ring), heath.pace("c")), (1, (5, 1)))
        self.same(heath.to_come("a"), None)
        self.same(heath.go(beats=5 * FAR), 5 * FAR)


class Settlers(Kept):
    def test_settle(self):
        heath = made()
        heath.call("ash")
        self.same(heath.settle("birch"), None)
        self.same(heath.plan(), (13, ("ash", "birch", "elm", "fir", "oak"), PLAN[2]))
        self.same(heath.picture(), (0, (0, None, None, None, None)))
        heath.settle(caller="alder")
        heath.settle("yew")
        self.same(heath.picture(), (0, (None, 0, None, None, None, None, None)))
        self.same((len(heath), heath.called("birch"), heath.called("ash")), (7, 0, 1))
        heath.call("birch")
        self.same((heath.called("birch"), heath.go(beats=9)), (1, 2))

    def test_settle_bad_plan(self):
        heath = made()
        for caller in ("ash", "oak", "", "Elm", "toolongby", "a1", "a b"):
            self.refused(BadPlan, caller, heath.settle, caller)
        for caller in "abcd":
            heath.settle(caller)
        self.refused(BadPlan, "e", heath.settle, "e")
        heath.leave("fir")
        self.same(heath.settle("e"), None)
        self.same(len(heath), 8)

    def test_a_caller_called_as_a_way(self):
        heath = made()
        heath.settle("lane")
        self.same(heath.plan()[1], ("ash", "elm", "fir", "lane", "oak"))
        heath.lay("ash", "lane", "fir", 1)
        self.same(heath.plan()[2][0], ("ash", "fir", "lane", 1))

    def test_leave(self):
        heath = made()
        heath.call("fir")
        heath.call("oak")
        self.same(heath.leave("fir"), None)
        self.same(heath.plan(), (13, ("ash", "elm", "oak"), PLAN[2]))
        self.same(heath.picture(), (0, (None, None, 0)))
        self.refused(NoCaller, "fir", heath.called, "fir")
        self.refused(NoCaller, "fir", heath.leave, "fir")
        self.refused(NoCaller, "fir", heath.call, "fir")

    def test_tied(self):
        heath = made()
        for caller in ("ash", "elm", "oak"):
            self.refused(Tied, caller, heath.leave, caller)
        for way in ("brook", "lane"):
            heath.cut(way)
        self.same(heath.leave(caller="ash"), None)
        self.refused(Tied, "elm", heath.leave, "elm")
        heath.cut("path")
        heath.leave("elm")
        heath.leave("fir")
        self.refused(Tied, "oak", heath.leave, "oak")
        self.refused(NoCaller, "elm", heath.leave, "elm")
        self.refused(Tied, "a", Heath(3, callers="a").leave, "a")
        self.assertEqual(Tied.__bases__, (RuntimeError,))

    def test_no_caller(self):
        for caller in ("heron", "", "lane", "ASH"):
            self.refused(NoCaller, caller, made().leave, caller)
        self.refused(NoCaller, "b", Heath(3, callers="a").leave, "b")

    def test_settled_again(self):
        heath = made()
        heath.call("fir")
        heath.go(beats=13)
        heath.call("fir")
        self.same(heath.called("fir"), 2)
        heath.leave("fir")
        heath.settle("fir")
        self.same((heath.called("fir"), heath.picture()), (0, (13, (None,) * 4)))
        heath.call("fir")
        self.same(heath.called("fir"), 1)
        heath.undo()
        heath.undo()
        heath.undo()
        self.same((heath.called("fir"), heath.picture()), (2, (13, (None, None, 13, None))))


class Beats(Kept):
    def test_go(self):
        heath = made()
        heath.call("ash")
        self.same([heath.go(), heath.go(), heath.go(beats=0), heath.go(beats=3), heath.go(beats=100)], [0, 1, 0, 1, 0])
        self.same((heath.beat(), heath.deeds()), (105, 6))
        with self.assertRaises(TypeError):
            heath.go(3)

    def test_go_no_beats_is_a_deed(self):
        heath = made()
        self.same((heath.go(beats=0), heath.beat(), heath.deeds()), (0, 0, 1))
        self.same((heath.undo(), heath.deeds()), (True, 0))

    def test_go_beat_by_beat_and_at_once(self):
        for plan, _, _ in winding_scenes(40):
            one, other = made(plan), made(plan)
            for heath in (one, other):
                heath.call("a")
            calls = [one.go() for _ in range(40)]
            self.same(other.go(beats=40), sum(calls))
            self.assertTrue(one == other)

    def test_go_far_off(self):
        heath = kindled()
        plan, picture = heath.plan(), heath.picture()
        ahead = [heath.called(caller) for caller in plan[1]]
        due = [calls_in(plan, picture, caller, 0, FAR + 8) for caller in plan[1]]
        self.same(heath.go(beats=FAR + 5), sum(due))
        self.same(heath.picture(), picture_at(plan, picture, FAR + 7))
        self.same([heath.called(caller) for caller in plan[1]], [one + more for one, more in zip(ahead, due)])
        for _ in range(58):
            heath.go(beats=FAR)
        self.same(heath.beat(), 59 * FAR + 7)
        self.same(heath.picture(), picture_at(plan, picture, 59 * FAR + 7))

    def test_go_far_off_beside_a_field(self):
        for seed in range(12):
            heath, model = Kept.story(self, 300 + seed, 25)
            field = model.fields[-1]
            beat = field.beat + FAR + seed
            due = {caller: Far(field, caller).till(caller, beat) for caller in field.called}
            ahead = {caller: heath.called(caller) for caller in due}
            self.same(heath.go(beats=FAR + seed), sum(due.values()))
            self.same(heath.picture(), far_picture(field, beat))
            for caller in due:
                self.same(heath.called(caller), ahead[caller] + due[caller])

    def test_go_far_off_undone(self):
        heath = kindled()
        twin = heath.twin()
        heath.go(beats=FAR)
        heath.undo()
        self.assertTrue(heath == twin)
        self.same(heath.go(beats=7), twin.go(beats=7))
        self.assertTrue(heath == twin)

    def test_rest(self):
        heath = made()
        heath.call("ash")
        self.same(heath.rest(), 11)
        self.same(heath.picture(), (11, (0, 2, None, 5)))
        self.same([heath.called(caller) for caller in PLAN[1]], [1, 1, 0, 1])
        self.same((heath.is_still(), heath.deeds()), (True, 2))

    def test_rest_of_a_still_one(self):
        heath = made()
        self.same((heath.rest(), heath.beat(), heath.deeds()), (0, 0, 1))
        self.same(heath.log(), [("in", "rest"), ("out", "rest")])
        heath.go(beats=FAR)
        self.same((heath.rest(), heath.picture()), (FAR, (FAR, (None,) * 4)))
        self.same((heath.undo(), heath.deeds(), heath.beat()), (True, 2, FAR))

    def test_rest_where_what_is_on_its_way_finds_hoarse_ones(self):
        heath = made()
        heath.call("ash")
        heath.go(beats=5)
        self.same(heath.is_still(), False)
        self.same((heath.rest(), heath.called("ash")), (11, 1))

    def test_rest_far_off(self):
        heath = made()
        heath.go(beats=FAR)
        heath.call("oak")
        self.same(heath.rest(), FAR + 11)
        self.same(heath.picture(), (FAR + 11, (FAR + 5, FAR + 3, None, FAR)))

    def test_endless(self):
        heath = kindled()
        heath.settle("aa")
        ahead = (heath.plan(), heath.picture(), heath.deeds())
        self.refused(Endless, "a", heath.rest)
        self.same((heath.plan(), heath.picture(), heath.deeds()), ahead)
        self.same(heath.log()[-2:], [("in", "rest"), ("out", "rest")])
        heath.cut("u")
        self.assertGreater(heath.rest(), 0)
        self.assertEqual(Endless.__bases__, (OverflowError,))

    def test_endless_of_the_first_caller(self):
        heath = Heath(3, callers=["ant", *"bcdef"], ways=[("t", "ant", "b", 1), *[
            (name, *sorted(ends), 1) for name, ends in zip("uvwx", ("bc", "cd", "de", "ef"))
        ]])
        heath.cut("t")
        heath.call("b")
        heath.go(beats=2)
        heath.lay("y", "f", "b", 1)
        self.refused(Endless, "b", heath.rest)


class Undoing(Kept):
    def test_each_deed(self):
        deeds = (
            ("call", "oak"), ("cut", "lane"), ("lay", "moor", "elm", "fir", 3), ("settle", "birch"), ("leave", "fir"),
            ("go", 3), ("go", 0), ("rest",), ("go", FAR),
        )
        for first in ((), (("call", "ash"), ("go", 1))):
            for deed in deeds:
                heath = made()
                for ahead in first:
                    do(heath, *ahead)
                due = (heath.plan(), heath.picture(), [heath.called(caller) for caller in PLAN[1]], heath.deeds())
                self.assertNotIsInstance(do(heath, *deed), tuple)
                self.same(heath.deeds(), len(first) + 1)
                self.same(heath.undo(), True)
                self.same((heath.plan(), heath.picture(), [heath.called(one) for one in PLAN[1]], heath.deeds()), due)
                self.same(heath.log()[-4:], [("in", deed[0]), ("out", deed[0]), ("in", "undo"), ("out", "undo")])

    def test_where_there_is_none(self):
        heath = made()
        self.same((heath.undo(), heath.undo(), heath.deeds()), (False, False, 0))
        self.same(heath.log(), [("in", "undo"), ("out", "undo")] * 2)
        heath.call("ash")
        self.same([heath.undo(), heath.undo()], [True, False])
        self.same((heath.picture(), heath.deeds()), (begun(PLAN), 0))

    def test_refused_deeds_are_none(self):
        heath = made()
        heath.call("ash")
        for _ in range(3):
            self.refused(Hoarse, "ash", heath.call, "ash")
            self.refused(NoWay, "moor", heath.cut, "moor")
        self.same(heath.deeds(), 1)
        self.same([heath.undo(), heath.undo()], [True, False])
        self.same(heath.picture(), begun(PLAN))

    def test_undone_and_done_otherwise(self):
        heath = made()
        for caller in PLAN[1]:
            heath.call(caller)
            heath.undo()
        heath.call("ash")
        heath.go(beats=4)
        heath.undo()
        heath.go(beats=2)
        self.same(heath.picture(), (2, (0, 2, None, None)))
        self.same(heath.deeds(), 2)

    def test_all_of_sixty_deeds(self):
        for seed in range(6):
            heath, model = self.story(500 + seed, 60)
            while model.do("undo"):
                self.same(heath.undo(), True)
                self.is_as(heath, model.fields[-1])
            self.same(heath.undo(), False)
            self.is_as(heath, model.fields[-1])
            self.same((heath.deeds(), heath.beat()), (0, 0))


class LongRuns(Kept):
    def test_deeds_one_behind_the_other(self):
        done, refused = {}, {}
        for seed in range(60):
            heath, model = self.story(seed, 60)
            for word, *_ in model.stand:
                done[word] = done.get(word, 0) + 1
            for pair in model.refusals:
                refused[pair] = refused.get(pair, 0) + 1
            self.assertIs(is_plan(heath.plan()), True)
            self.assertIs(is_picture(heath.plan(), heath.picture()), True)
        self.assertTrue(all(done[word] > 20 for word in DEEDS[:-1]), done)
        for pair in (
            ("call", NoCaller), ("call", Hoarse), ("cut", NoWay), ("lay", NoCaller), ("lay", BadPlan), ("lay", Apart),
            ("settle", BadPlan), ("leave", NoCaller), ("leave", Tied),
        ):
            self.assertGreater(refused.get(pair, 0), 5, pair)

    def test_deeds_on_a_heath_that_goes_on_for_ever(self):
        refused, endless = [], 0
        for seed in range(40):
            heath, model = self.story(900 + seed, 45, KINDLING)
            refused.extend(model.refusals)
            endless += heath.pace(heath.plan()[1][0]) is not None
            self.asks_as(heath, model.fields[-1])
        self.assertGreater(refused.count(("rest", Endless)), 20)
        self.assertGreater(endless, 5)

    def test_asks_along_the_way(self):
        for seed in range(25):
            heath, model = Kept.story(self, 100 + seed, 30)
            for _ in range(8):
                self.asks_as(heath, model.fields[-1])
                for deed in (("undo",), ("undo",)):
                    self.same(do(heath, *deed), model.do(*deed))

    def test_asking_changes_nothing(self):
        for seed in range(10):
            heath, model = self.story(200 + seed, 40)
            for _ in range(2):
                self.asks_as(heath, model.fields[-1])
                self.is_as(heath, model.fields[-1])
                heath.twin().go(beats=9)
                heath.as_of(0).undo()
            self.same((heath.log(), heath.deeds()), (model.rows, len(model.stand)))

    def test_one_made_anew_of_the_deeds_that_stand(self):
        for seed in range(30):
            heath, model = self.story(600 + seed, 60)
            start = model.fields[0]
            anew = Heath(start.rest, callers=sorted(start.called))
            for deed in model.stand:
                do(anew, *deed)
            self.assertTrue(anew == heath)
            self.same((anew.plan(), anew.picture(), anew.deeds()), (heath.plan(), heath.picture(), heath.deeds()))
            for one in heath.plan()[1]:
                self.same((anew.called(one), anew.to_come(one)), (heath.called(one), heath.to_come(one)))
            self.same((anew.go(beats=30), str(anew)), (heath.go(beats=30), str(heath)))

    def test_refused_deeds_leave_both_ends_in_the_log_alone(self):
        heath = kindled()
        heath.settle("f")
        ahead = repr((heath.plan(), heath.picture(), heath.deeds(), [heath.called(one) for one in "abcdef"]))
        rows = heath.log()
        for word, given, error, what in (
            ("call", ("d",), None, None), ("call", ("c",), Hoarse, "c"), ("call", ("q",), NoCaller, "q"),
            ("cut", ("q",), NoWay, "q"), ("lay", ("q", "a", "q", 1), NoCaller, "q"), ("lay", ("u", "a", "b", 1), BadPlan, "u"),
            ("lay", ("q", "c", "f", 1), Apart, "q"), ("settle", ("f",), BadPlan, "f"), ("leave", ("a",), Tied, "a"),
            ("leave", ("q",), NoCaller, "q"), ("rest", (), Endless, "a"),
        ):
            if error is not None:
                self.refused(error, what, getattr(heath, word), *given)
                rows += [("in", word), ("out", word)]
                self.same(heath.log(), rows)
                self.same(heath.is_open(), True)
                now = repr((heath.plan(), heath.picture(), heath.deeds(), [heath.called(one) for one in "abcdef"]))
                self.assertEqual(now, ahead)


class Asks(Kept):
    def test_called(self):
        heath = made()
        for caller in ("heron", "", "lane", "ASH"):
            self.refused(NoCaller, caller, heath.called, caller)
        self.same(heath.called(caller="ash"), 0)

    def test_called_over_undone_deeds(self):
        heath = made()
        heath.call("ash")
        heath.go(beats=30)
        self.same([heath.called(caller) for caller in PLAN[1]], [1, 1, 0, 1])
        heath.call("ash")
        heath.go(beats=30)
        self.same([heath.called(caller) for caller in PLAN[1]], [2, 2, 0, 2])
        heath.undo()
        self.same([heath.called(caller) for caller in PLAN[1]], [2, 1, 0, 1])
        heath.undo()
        self.same([heath.called(caller) for caller in PLAN[1]], [1, 1, 0, 1])

    def test_wind(self):
        heath = kindled()
        ring = [("a", "u"), ("b", "v"), ("c", "w"), ("d", "x"), ("e", "y")]
        self.same((heath.wind(ring), heath.wind(ring=tuple(ring))), (1, 1))
        for beats in (1, 3, FAR):
            heath.go(beats=beats)
            self.same(heath.wind(ring), 1)
            self.same(heath.wind(ring), wind(heath.plan(), heath.picture(), ring))

    def test_is_still(self):
        heath = made()
        self.same(heath.is_still(), True)
        heath.call("fir")
        self.same(heath.is_still(), True)
        heath.call("ash")
        for _ in range(11):
            self.same(heath.is_still(), False)
            heath.go()
        self.same((heath.is_still(), heath.beat()), (True, 11))

    def test_to_come_pace_and_owed(self):
        heath = made()
        heath.call("ash")
        self.same([heath.to_come(caller) for caller in PLAN[1]], [0, 1, 0, 1])
        self.same([heath.pace(caller=caller) for caller in PLAN[1]], [None] * 4)
        self.same(heath.owed(), [("brook", "oak"), ("lane", "elm")])
        heath = kindled()
        self.same([heath.to_come(caller) for caller in "abcde"], [None] * 5)
        self.same([heath.pace(caller) for caller in "abcde"], [(5, 1)] * 5)
        self.same(heath.owed(), owed(heath.plan(), heath.picture()))
        self.same(heath.pace("a"), pace(heath.plan(), heath.picture(), "a"))
        for caller in ("heron", "", "u", "A"):
            self.refused(NoCaller, caller, heath.to_come, caller)
            self.refused(NoCaller, caller, heath.pace, caller)

    def test_lists_are_the_askers_own(self):
        heath = made()
        heath.call("ash")
        for ask in (heath.owed, heath.log):
            first, second = ask(), ask()
            self.assertIsNot(first, second)
            due = repr(second)
            first.clear()
            first.append("more")
            self.same((repr(second), repr(ask())), (due, due))
        heath.go()
        self.same(heath.log(), [("in", "call"), ("out", "call"), ("in", "go"), ("out", "go")])

    def test_log_of_each_deed(self):
        heath = made()
        due = []
        for deed in (
            ("call", "ash"), ("cut", "lane"), ("lay", "moor", "elm", "ash", 3), ("settle", "yew"), ("leave", "yew"),
            ("go", 1), ("rest",), ("undo",), ("call", "heron"), ("leave", "ash"), ("undo",),
        ):
            do(heath, *deed)
            due += [("in", deed[0]), ("out", deed[0])]
            self.same((heath.log(), heath.is_open()), (due, True))
        self.same(sorted({word for _, word in due}), sorted(DEEDS))

    def test_as_of(self):
        for seed in range(25):
            heath, model = self.story(700 + seed, 40)
            for many, field in enumerate(model.fields):
                other = heath.as_of(many)
                self.is_as(other, field)
                self.same((other.deeds(), other.log(), other.is_open()), (many, [], True))
                for left in reversed(model.fields[:many]):
                    self.same(other.undo(), True)
                    self.is_as(other, left)
                self.same(other.undo(), False)
            self.is_as(heath, model.fields[-1])
            self.same((heath.log(), heath.deeds()), (model.rows, len(model.stand)))

    def test_as_of_by_name(self):
        heath = made()
        heath.call("ash")
        self.same(heath.as_of(many=0).picture(), begun(PLAN))

    def test_no_deed(self):
        heath = made()
        for many in (-1, 1, 2, 60, FAR, -FAR):
            self.refused(NoDeed, many, heath.as_of, many)
        heath.call("ash")
        heath.go()
        for many in (-1, -2, -3, 3, 4, FAR):
            self.refused(NoDeed, many, heath.as_of, many)
        heath.undo()
        self.refused(NoDeed, 2, heath.as_of, many=2)
        self.same(heath.as_of(1).deeds(), 1)
        self.same(len(heath.log()), 6)
        self.assertEqual(NoDeed.__bases__, (LookupError,))

    def test_twin(self):
        for seed in range(15):
            heath, model = self.story(800 + seed, 30)
            twin = heath.twin()
            self.assertTrue(twin == heath)
            self.assertIsNot(twin, heath)
            self.is_as(twin, model.fields[-1])
            self.same((twin.deeds(), twin.log()), (heath.deeds(), []))

    def test_what_is_done_to_one_is_nothing_to_the_other(self):
        for make in (lambda heath: heath.twin(), lambda heath: heath.as_of(heath.deeds()), lambda heath: heath.as_of(1)):
            heath = made()
            heath.call("ash")
            heath.go(beats=3)
            other = make(heath)
            due = [(one.plan(), one.picture(), one.deeds(), one.called("elm")) for one in (heath, other)]
            rows = heath.log()
            other.go(beats=9)
            other.settle("yew")
            other.cut("lane")
            self.same((heath.plan(), heath.picture(), heath.deeds(), heath.called("elm")), due[0])
            self.same(heath.log(), rows)
            self.same(other.log(), [("in", "go"), ("out", "go"), ("in", "settle"), ("out", "settle"), ("in", "cut"), ("out", "cut")])
            for _ in range(3):
                other.undo()
            heath.go(beats=20)
            heath.undo()
            heath.undo()
            heath.undo()
            self.same((other.plan(), other.picture(), other.deeds(), other.called("elm")), due[1])
            self.same(len(other.log()), 12)

    def test_a_twins_twin(self):
        heath = made()
        heath.call("ash")
        twin = heath.twin().twin()
        heath.undo()
        twin.go(beats=2)
        again = twin.as_of(1)
        self.same((twin.picture(), again.picture(), heath.picture()), (
            (2, (0, 2, None, None)), (0, (0, None, None, None)), begun(PLAN),
        ))


class Like(Asking):
    def check(self, one, other, like):
        self.assertIs(one == other, like)
        self.assertIs(other == one, like)
        self.assertIs(one != other, not like)
        self.assertIs(other != one, not like)

    def test_made_alike(self):
        heath = made()
        self.check(heath, heath, True)
        self.check(heath, made(), True)
        self.check(heath, Heath(13, callers=PLAN[1][::-1], ways=PLAN[2][::-1]), True)

    def test_made_otherwise(self):
        heath = made()
        for other in (
            Heath(14, callers=PLAN[1], ways=PLAN[2]), Heath(13, callers=PLAN[1], ways=PLAN[2][1:]),
            Heath(13, callers=PLAN[1]), Heath(13, callers=(*PLAN[1], "yew"), ways=PLAN[2]),
            Heath(13, callers=PLAN[1], ways=[("brook", "ash", "oak", 5), *PLAN[2][1:]]),
        ):
            self.check(heath, other, False)

    def test_come_about_otherwise(self):
        one, other = made(), made()
        one.call("ash")
        self.check(one, other, False)
        other.go(beats=0)
        other.call("ash")
        self.check(one, other, True)
        one.go(beats=2)
        self.check(one, other, False)
        other.go()
        other.go()
        self.check(one, other, True)
        other.settle("yew")
        other.leave("yew")
        self.check(one, other, True)
        one.undo()
        self.check(one, other, False)

    def test_alike_but_for_called(self):
        one, other = Heath(3, callers="ab"), Heath(3, callers="ab")
        one.call("a")
        for heath in (one, other):
            heath.go(beats=9)
            heath.call("a")
        self.same((one.plan(), one.picture()), (other.plan(), other.picture()))
        self.check(one, other, False)
        one.leave("a")
        one.settle("a")
        other.leave("a")
        other.settle("a")
        self.check(one, other, True)

    def test_alike_but_for_the_beat(self):
        one, other = made(), made()
        one.go()
        self.check(one, other, False)

    def test_the_log_and_the_deeds_are_nothing_to_it(self):
        one, other = made(), made()
        one.undo()
        one.cut("lane")
        one.undo()
        self.refused(NoWay, "moor", one.cut, "moor")
        self.check(one, other, True)
        self.check(one.twin(), other, True)

    def test_unlike_all_else(self):
        heath = made()
        for other in (None, 0, 1, True, "", str(heath), PLAN, heath.picture(), (PLAN, begun(PLAN)), [], [heath], Heath, object()):
            self.check(heath, other, False)

    def test_len_and_str(self):
        for many in range(1, 9):
            heath = Heath(3, callers=NAMES[:many])
            self.same((len(heath), str(heath)), (many, plan_text(heath.plan())))
        heath = made()
        heath.settle("yew")
        heath.cut("lane")
        self.same((len(heath), str(heath)), (5, (
            "heath 13\ncaller ash\ncaller elm\ncaller fir\ncaller oak\ncaller yew\nway brook ash oak 6\nway path elm oak 3"
        )))

    def test_each_method_is_of_its_own(self):
        for name in (
            *DEEDS, "plan", "picture", "beat", "called", "wind", "is_still", "to_come", "pace", "owed", "deeds", "as_of",
            "twin", "log", "is_open", "__init__", "__eq__", "__len__", "__str__",
        ):
            self.assertIn(name, vars(Heath))
        self.assertEqual((Heath.__module__, Heath.__name__), ("hoarseheath.heath", "Heath"))
