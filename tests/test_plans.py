import copy
import itertools
import unittest

from hoarseheath.errors import NoCaller
from hoarseheath.plans import beats_apart, is_plan, parts, ways_at

# Two parts of several callers, and gorse alone; from ash to oak one long way and two short ones behind each other.
HEATH = (
    13,
    ("ash", "birch", "elm", "fir", "gorse", "oak"),
    (
        ("brook", "ash", "oak", 6),
        ("ditch", "birch", "fir", 4),
        ("lane", "ash", "elm", 2),
        ("path", "elm", "oak", 3),
        ("track", "birch", "fir", 2),
    ),
)

ALONE = (3, ("ash",), ())

NO_WAYS = (3, ("ash", "elm", "oak"), ())


def small_plans():
    """Plans of four callers: each two apart by no way, a short one or a long one."""
    pairs = list(itertools.combinations("abcd", 2))
    for row in itertools.product((0, 1, 4), repeat=6):
        ways = [(name, *pair, beats) for name, pair, beats in zip("uvwxyz", pairs, row) if beats]
        yield (9, ("a", "b", "c", "d"), tuple(ways))


def least_of_all_walks(plan, one, other):
    """The least beats of all rows of ways by which no caller is passed twice; None where there are none."""
    beats = {}
    for _, low, high, many in plan[2]:
        for pair in ((low, high), (high, low)):
            beats[pair] = min(many, beats.get(pair, many))
    if one == other:
        return 0
    between = [caller for caller in plan[1] if caller not in (one, other)]
    least = None
    for many in range(len(between) + 1):
        for middle in itertools.permutations(between, many):
            walk = (one, *middle, other)
            steps = list(zip(walk, walk[1:]))
            if all(step in beats for step in steps):
                whole = sum(beats[step] for step in steps)
                least = whole if least is None else min(least, whole)
    return least


class Refusing(unittest.TestCase):
    def refuse(self, what, ask, *given, **named):
        with self.assertRaises(NoCaller) as refused:
            ask(*given, **named)
        self.assertIs(type(refused.exception), NoCaller)
        self.assertEqual(vars(refused.exception), {"what": what})


class WaysAt(Refusing):
    def test_ordinary(self):
        self.assertEqual(ways_at(HEATH, "ash"), [("brook", "oak"), ("lane", "elm")])
        self.assertEqual(ways_at(HEATH, "elm"), [("lane", "ash"), ("path", "oak")])
        self.assertEqual(ways_at(HEATH, "oak"), [("brook", "ash"), ("path", "elm")])

    def test_several_ways_between_two(self):
        self.assertEqual(ways_at(HEATH, "birch"), [("ditch", "fir"), ("track", "fir")])
        self.assertEqual(ways_at(HEATH, "fir"), [("ditch", "birch"), ("track", "birch")])

    def test_caller_without_ways(self):
        self.assertEqual(ways_at(HEATH, "gorse"), [])
        self.assertEqual(ways_at(ALONE, "ash"), [])

    def test_rising_by_the_way_not_by_the_other_one(self):
        plan = (5, ("a", "b", "c", "d"), (("u", "b", "d", 1), ("v", "b", "c", 2), ("w", "a", "b", 1)))
        self.assertEqual(ways_at(plan, "b"), [("u", "d"), ("v", "c"), ("w", "a")])

    def test_a_list_of_pairs(self):
        told = ways_at(HEATH, "ash")
        self.assertIs(type(told), list)
        self.assertEqual([type(pair) for pair in told], [tuple, tuple])
        self.assertIs(type(ways_at(HEATH, "gorse")), list)

    def test_each_way_stands_at_its_two(self):
        for plan in small_plans():
            for caller in plan[1]:
                due = [(way[0], way[2]) for way in plan[2] if way[1] == caller]
                due += [(way[0], way[1]) for way in plan[2] if way[2] == caller]
                self.assertEqual(ways_at(plan, caller), sorted(due))

    def test_ten_ways_at_one(self):
        plan = (24, ("a", "b", "c"), tuple((name, "a", "bc"[at % 2], 1) for at, name in enumerate("defghijklm")))
        self.assertEqual(ways_at(plan, "a"), [(name, "bc"[at % 2]) for at, name in enumerate("defghijklm")])

    def test_by_name(self):
        self.assertEqual(ways_at(plan=HEATH, caller="birch"), [("ditch", "fir"), ("track", "fir")])
        self.assertEqual(ways_at(caller="gorse", plan=HEATH), [])

    def test_no_caller(self):
        for caller in ("heron", "as", "ashes", "", "ASH", "lane"):
            self.refuse(caller, ways_at, HEATH, caller)
        self.refuse("elm", ways_at, ALONE, "elm")
        self.refuse("heron", ways_at, caller="heron", plan=HEATH)

    def test_two_askings_tell_two_lists(self):
        one, other = ways_at(HEATH, "ash"), ways_at(HEATH, "ash")
        self.assertIsNot(one, other)
        one.append("more")
        one[0] = None
        self.assertEqual(other, [("brook", "oak"), ("lane", "elm")])
        self.assertEqual(ways_at(HEATH, "ash"), [("brook", "oak"), ("lane", "elm")])
        ways_at(HEATH, "gorse").append("more")
        self.assertEqual(ways_at(HEATH, "gorse"), [])
        self.assertEqual(ways_at(ALONE, "ash"), [])


class Parts(unittest.TestCase):
    def test_ordinary(self):
        self.assertEqual(parts(HEATH), [["ash", "elm", "oak"], ["birch", "fir"], ["gorse"]])

    def test_one_caller(self):
        self.assertEqual(parts(ALONE), [["ash"]])

    def test_no_ways(self):
        self.assertEqual(parts(NO_WAYS), [["ash"], ["elm"], ["oak"]])

    def test_one_part(self):
        plan = (5, ("a", "b", "c"), (("u", "a", "c", 1), ("v", "b", "c", 2)))
        self.assertEqual(parts(plan), [["a", "b", "c"]])

    def test_led_to_by_greater_callers_alone(self):
        plan = (3, tuple("abcdef"), (("u", "a", "f", 1), ("v", "e", "f", 1), ("w", "b", "e", 1), ("x", "c", "d", 1)))
        self.assertEqual(parts(plan), [["a", "b", "e", "f"], ["c", "d"]])

    def test_a_row_of_eight(self):
        for order in ("abcdefgh", "hgfedcba", "aebfcgdh", "dbhacgef"):
            steps = zip("stuvwxy", order, order[1:])
            ways = tuple((name, *sorted((one, other)), 1) for name, one, other in steps)
            self.assertEqual(parts((3, tuple("abcdefgh"), ways)), [list("abcdefgh")])

    def test_parts_that_lie_within_one_another(self):
        ways = (("u", "a", "h", 1), ("v", "b", "g", 1), ("w", "c", "f", 1), ("x", "d", "e", 1))
        self.assertEqual(parts((3, tuple("abcdefgh"), ways)), [["a", "h"], ["b", "g"], ["c", "f"], ["d", "e"]])

    def test_several_ways_between_two_are_one_part(self):
        plan = (5, ("a", "b", "c"), (("u", "a", "b", 1), ("v", "a", "b", 2), ("w", "a", "b", 1)))
        self.assertEqual(parts(plan), [["a", "b"], ["c"]])

    def test_lists_of_texts(self):
        told = parts(HEATH)
        self.assertIs(type(told), list)
        self.assertEqual([type(part) for part in told], [list, list, list])

    def test_parts_are_those_that_walks_lead_to(self):
        for plan in small_plans():
            due = []
            for one in plan[1]:
                row = [other for other in plan[1] if least_of_all_walks(plan, one, other) is not None]
                if row not in due:
                    due.append(row)
            self.assertEqual(parts(plan), due)

    def test_by_name(self):
        self.assertEqual(parts(plan=NO_WAYS), [["ash"], ["elm"], ["oak"]])

    def test_two_askings_tell_two_lists(self):
        due = [["ash", "elm", "oak"], ["birch", "fir"], ["gorse"]]
        one, other = parts(HEATH), parts(HEATH)
        told = [one, other, *one, *other]
        for first, second in itertools.combinations(told, 2):
            self.assertIsNot(first, second)
        one[0].append("more")
        one[2].clear()
        one.append(["more"])
        self.assertEqual(other, due)
        self.assertEqual(parts(HEATH), due)
        self.assertEqual(beats_apart(HEATH, "ash", "oak"), 5)


class BeatsApart(Refusing):
    def both(self, plan, one, other, due):
        for told in (beats_apart(plan, one, other), beats_apart(plan, other, one)):
            self.assertEqual(told, due)
            self.assertIs(type(told), type(due))

    def test_one_way(self):
        self.both(HEATH, "ash", "elm", 2)
        self.both(HEATH, "elm", "oak", 3)

    def test_longer_row_of_ways_that_is_shorter_in_beats(self):
        self.both(HEATH, "ash", "oak", 5)

    def test_straight_way_that_is_shorter_in_beats(self):
        plan = (9, ("a", "b", "c"), (("u", "a", "b", 2), ("v", "a", "c", 4), ("w", "b", "c", 3)))
        self.both(plan, "a", "c", 4)

    def test_rows_of_ways_alike_in_beats(self):
        plan = (9, ("a", "b", "c"), (("u", "a", "b", 2), ("v", "a", "c", 4), ("w", "b", "c", 2)))
        self.both(plan, "a", "c", 4)

    def test_several_ways_between_two(self):
        self.both(HEATH, "birch", "fir", 2)
        for beats in itertools.permutations((1, 3, 6)):
            ways = tuple((name, "a", "b", many) for name, many in zip("uvw", beats))
            self.both((13, ("a", "b"), ways), "a", "b", 1)

    def test_far_off_by_six_short_ways_nearer_than_by_two_long_ones(self):
        row = tuple((name, one, other, 1) for name, one, other in zip("nopqrs", "abcdef", "bcdefg"))
        plan = (13, tuple("abcdefgh"), row + (("t", "a", "h", 4), ("u", "g", "h", 3)))
        self.both(plan, "a", "g", 6)
        self.both(plan, "a", "h", 4)
        self.both(plan, "b", "h", 5)
        self.both(plan, "d", "h", 6)

    def test_more_beats_than_one_way_may_have(self):
        row = tuple((name, one, other, 6) for name, one, other in zip("nopqrst", "abcdefg", "bcdefgh"))
        self.both((13, tuple("abcdefgh"), row), "a", "h", 42)

    def test_one_to_itself(self):
        for plan in (HEATH, ALONE, NO_WAYS):
            for caller in plan[1]:
                self.both(plan, caller, caller, 0)

    def test_no_way_leads(self):
        for one, other in (("ash", "birch"), ("elm", "fir"), ("oak", "gorse"), ("gorse", "birch")):
            self.both(HEATH, one, other, None)
        self.both(NO_WAYS, "ash", "elm", None)

    def test_the_least_of_all_walks(self):
        for plan in small_plans():
            for one, other in itertools.product(plan[1], repeat=2):
                self.assertEqual(beats_apart(plan, one, other), least_of_all_walks(plan, one, other))

    def test_by_name(self):
        self.assertEqual(beats_apart(plan=HEATH, one="ash", other="oak"), 5)
        self.assertIsNone(beats_apart(HEATH, other="ash", one="birch"))

    def test_no_caller(self):
        self.refuse("heron", beats_apart, HEATH, "heron", "ash")
        self.refuse("heron", beats_apart, HEATH, "ash", "heron")
        self.refuse("heron", beats_apart, NO_WAYS, "ash", "heron")
        self.refuse("", beats_apart, ALONE, "", "ash")

    def test_first_that_is_not_there(self):
        self.refuse("heron", beats_apart, HEATH, "heron", "crow")
        self.refuse("crow", beats_apart, HEATH, "crow", "heron")
        self.refuse("heron", beats_apart, plan=HEATH, other="crow", one="heron")

    def test_no_caller_to_itself(self):
        self.refuse("heron", beats_apart, HEATH, "heron", "heron")
        self.refuse("elm", beats_apart, ALONE, "elm", "elm")

    def test_asked_twice_it_tells_the_same(self):
        for one, other in (("ash", "oak"), ("ash", "birch"), ("ash", "ash")):
            self.assertEqual(beats_apart(HEATH, one, other), beats_apart(HEATH, one, other))


class Plans(Refusing):
    def test_the_plans_here_are_plans(self):
        for plan in (HEATH, ALONE, NO_WAYS, *small_plans()):
            self.assertIs(is_plan(plan), True)

    def test_a_plan_stays_as_it_was(self):
        ahead = copy.deepcopy(HEATH)
        ways_at(HEATH, "ash")
        parts(HEATH)
        beats_apart(HEATH, "ash", "oak")
        self.refuse("heron", ways_at, HEATH, "heron")
        self.refuse("heron", beats_apart, HEATH, "ash", "heron")
        self.assertEqual(HEATH, ahead)

    def test_a_refusal_changes_nothing(self):
        self.refuse("heron", ways_at, HEATH, "heron")
        self.refuse("heron", beats_apart, HEATH, "heron", "ash")
        self.assertEqual(ways_at(HEATH, "gorse"), [])
        self.assertEqual(parts(HEATH), [["ash", "elm", "oak"], ["birch", "fir"], ["gorse"]])
        self.refuse("heron", ways_at, HEATH, "heron")

    def test_plans_side_by_side_are_told_apart(self):
        shorter = (13, HEATH[1], (("brook", "ash", "oak", 1),))
        self.assertEqual(beats_apart(HEATH, "ash", "oak"), 5)
        self.assertEqual(beats_apart(shorter, "ash", "oak"), 1)
        self.assertEqual(ways_at(shorter, "ash"), [("brook", "oak")])
        self.assertEqual(parts(shorter), [["ash", "oak"], ["birch"], ["elm"], ["fir"], ["gorse"]])
        self.assertEqual(beats_apart(HEATH, "ash", "oak"), 5)

    def test_each_is_made_in_its_own_file(self):
        for made in (is_plan, ways_at, parts, beats_apart):
            self.assertEqual(made.__module__, "hoarseheath.plans")


if __name__ == "__main__":
    unittest.main()
