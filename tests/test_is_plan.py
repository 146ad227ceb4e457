import copy
import unittest

from hoarseheath.plans import is_plan

NAMES = tuple("abcdefghijk")

PLAN = (13, ("ash", "elm", "oak"), (("brook", "ash", "oak", 6), ("lane", "ash", "elm", 1), ("path", "elm", "oak", 2)))


def callers(many):
    return NAMES[:many]


def ways(many, beats=1):
    return tuple((name, "a", "b", beats) for name in NAMES[:many])


def one_way(*way):
    return (13, ("a", "b", "c"), (way,))


def put(thing, spot, worth):
    """The thing with another worth at a spot, told by the indexes that lead there."""
    if not spot:
        return worth
    rows = list(thing)
    rows[spot[0]] = put(rows[spot[0]], spot[1:], worth)
    return tuple(rows)


def spots(thing, ahead=()):
    """Each spot of a thing made of tuples, the whole one first."""
    yield ahead
    if isinstance(thing, tuple):
        for at, row in enumerate(thing):
            yield from spots(row, ahead + (at,))


def at(thing, spot):
    for index in spot:
        thing = thing[index]
    return thing


def nested(make, deep):
    thing = 1
    for _ in range(deep):
        thing = make([thing])
    return thing


def as_lists(thing):
    return [as_lists(row) for row in thing] if isinstance(thing, tuple) else thing


class IsPlan(unittest.TestCase):
    def yes(self, thing):
        with self.subTest(thing=thing):
            self.assertIs(is_plan(thing), True)

    def no(self, thing):
        with self.subTest(thing=thing):
            self.assertIs(is_plan(thing), False)

    def test_ordinary_plan(self):
        self.yes(PLAN)

    def test_by_name(self):
        self.assertIs(is_plan(thing=PLAN), True)
        self.assertIs(is_plan(thing=None), False)

    def test_one_to_eight_callers(self):
        for many in range(1, 9):
            self.yes((5, callers(many), ()))

    def test_no_callers_and_nine(self):
        self.no((5, (), ()))
        self.no((5, callers(9), ()))
        self.no((5, callers(9), ways(1)))

    def test_none_to_ten_ways(self):
        for many in range(0, 11):
            self.yes((5, ("a", "b"), ways(many)))

    def test_eleven_ways(self):
        self.no((5, ("a", "b"), ways(11)))

    def test_rest_of_three_to_twenty_four(self):
        for rest in range(3, 25):
            self.yes((rest, ("a", "b"), ()))
            self.yes((rest, ("a", "b"), ways(1)))

    def test_rest_beyond_its_bounds(self):
        for rest in (2, 1, 0, -3, -24, 25, 26, 10 ** 30):
            self.no((rest, ("a", "b"), ()))
            self.no((rest, ("a", "b"), ways(1)))

    def test_beats_of_one_to_six(self):
        for beats in range(1, 7):
            self.yes((24, ("a", "b"), ways(2, beats)))

    def test_beats_beyond_their_bounds(self):
        for beats in (0, -1, -6, 7, 8, 11, 10 ** 30):
            self.no((24, ("a", "b"), ways(1, beats)))

    def test_rest_that_just_fits_the_beats(self):
        for beats in range(1, 7):
            self.yes((2 * beats + 1, ("a", "b"), ways(3, beats)))
            self.yes((2 * beats + 2, ("a", "b"), ways(3, beats)))

    def test_rest_one_less_than_the_beats_ask_for(self):
        for beats in range(1, 7):
            self.no((2 * beats, ("a", "b"), ways(1, beats)))

    def test_each_way_has_to_fit_the_rest(self):
        for long_one in range(3):
            rows = [("u", "a", "b", 2), ("v", "a", "b", 2), ("w", "a", "b", 2)]
            self.yes((5, ("a", "b"), tuple(rows)))
            rows[long_one] = rows[long_one][:3] + (3,)
            self.no((5, ("a", "b"), tuple(rows)))
            self.yes((7, ("a", "b"), tuple(rows)))

    def test_several_ways_between_two(self):
        self.yes((13, ("a", "b"), (("u", "a", "b", 1), ("v", "a", "b", 6), ("w", "a", "b", 1))))

    def test_callers_without_ways(self):
        self.yes((13, ("a", "b", "c"), (("w", "a", "c", 1),)))

    def test_a_way_may_be_called_as_a_caller(self):
        self.yes(one_way("a", "a", "b", 1))

    def test_callers_rise(self):
        self.yes((5, ("a", "aa", "ab", "b"), ()))
        for row in (("b", "a"), ("aa", "a"), ("b", "aa"), ("a", "c", "b"), ("b", "a", "c"), ("ab", "aa")):
            self.no((5, row, ()))

    def test_no_caller_stands_twice(self):
        for row in (("a", "a"), ("a", "b", "b"), ("a", "a", "b"), ("a", "b", "a")):
            self.no((5, row, ()))

    def test_names_of_ways_rise(self):
        def named(*names):
            return (5, ("a", "b"), tuple((name, "a", "b", 1) for name in names))

        self.yes(named("a", "aa", "ab", "b"))
        for names in (("b", "a"), ("aa", "a"), ("b", "aa"), ("a", "c", "b"), ("b", "a", "c")):
            self.no(named(*names))

    def test_no_name_of_a_way_stands_twice(self):
        self.no((5, ("a", "b", "c"), (("w", "a", "b", 1), ("w", "a", "c", 1))))
        self.no((5, ("a", "b"), (("w", "a", "b", 1), ("w", "a", "b", 2))))
        self.no((5, ("a", "b"), (("w", "a", "b", 1), ("w", "a", "b", 1))))

    def test_ways_rise_by_name_alone(self):
        self.yes((5, ("a", "b", "c"), (("u", "b", "c", 2), ("v", "a", "c", 1), ("w", "a", "b", 1))))

    def test_one_is_less_than_other(self):
        self.yes(one_way("w", "a", "c", 1))
        for one, other in (("c", "a"), ("b", "a"), ("a", "a"), ("c", "c")):
            self.no(one_way("w", one, other, 1))

    def test_ways_of_callers_that_are_not_there(self):
        for one, other in (("a", "d"), ("aa", "b"), ("d", "e"), ("", "b"), ("a", "bb"), ("c", "d")):
            self.no(one_way("w", one, other, 1))

    def test_names_of_one_and_of_eight_letters(self):
        for name in ("a", "z", "abcdefgh", "zzzzzzzz", "mnopqrst", "uvwxyz", "ijkl"):
            self.yes((5, (name,), ()))
            self.yes((5, ("a", "b"), ((name, "a", "b", 1),)))

    def test_names_of_none_and_of_nine_letters(self):
        for name in ("", "abcdefghi", "a" * 9, "a" * 100):
            self.no((5, (name,), ()))
            self.no((5, ("a", "b"), ((name, "a", "b", 1),)))

    def test_names_of_other_signs(self):
        signs = "AZMN059 _-.,;~`{@[^\n\t\0\u00e9\u00df\u00aa\u00ba\u0430\u03b1\u0131\u017f\uff41"
        for sign in signs:
            for name in (sign, "a" + sign, sign + "a", "ab" + sign + "yz"):
                self.no((5, (name,), ()))
                self.no((5, ("a", "b"), ((name, "a", "b", 1),)))

    def test_each_caller_is_a_name(self):
        self.no((5, ("a", "B"), ()))
        self.no((5, ("A", "b"), ()))
        self.no((5, ("", "b"), ()))
        self.no((5, ("a", "b", "c1", "d"), ()))
        self.no((5, ("a", "b", "ccccccccc"), (("w", "a", "b", 1),)))

    def test_true_and_false_are_no_numbers(self):
        self.no(one_way("w", "a", "b", True))
        self.no(one_way("w", "a", "b", False))
        for rest in (True, False):
            self.no((rest, ("a", "b"), ()))
            self.no((rest, ("a", "b"), (("w", "a", "b", 1),)))

    def test_a_list_where_a_tuple_belongs(self):
        self.no(list(PLAN))
        self.no((13, ["a", "b"], ()))
        self.no((13, ("a", "b"), []))
        self.no((13, ("a", "b"), [("w", "a", "b", 1)]))
        self.no((13, ("a", "b"), (["w", "a", "b", 1],)))
        self.no((13, ("a", "b"), (("u", "a", "b", 1), ["w", "a", "b", 1])))
        self.no(as_lists(PLAN))

    def test_a_tuple_where_a_number_or_a_name_belongs(self):
        self.no(((13,), ("a", "b"), ()))
        self.no((13, (("a",), ("b",)), ()))
        self.no(one_way(("w",), "a", "b", 1))
        self.no(one_way("w", ("a",), "b", 1))
        self.no(one_way("w", "a", ("b",), 1))
        self.no(one_way("w", "a", "b", (1,)))

    def test_too_short_and_too_long(self):
        for row in ((), (13,), (13, ("a", "b")), PLAN + ((),), PLAN + PLAN, PLAN + (None,)):
            self.no(row)
        for way in ((), ("w",), ("w", "a"), ("w", "a", "b"), ("w", "a", "b", 1, 1), ("w", "a", "b", 1, None)):
            self.no(one_way(*way))

    def test_a_way_where_the_ways_belong(self):
        self.no((13, ("a", "b"), ("w", "a", "b", 1)))

    def test_texts_where_tuples_belong(self):
        self.no("abc")
        self.no((13, "ab", ()))
        self.no((13, "a", ()))
        self.no((13, ("a", "b"), ""))
        self.no((13, ("a", "b"), ("wab1",)))

    def test_texts_where_numbers_belong(self):
        self.no(("13", ("a", "b"), ()))
        self.no(one_way("w", "a", "b", "1"))

    def test_parts_in_another_order(self):
        rest, stand, lead = PLAN
        for row in ((rest, lead, stand), (stand, rest, lead), (stand, lead, rest), (lead, stand, rest)):
            self.no(row)

    def test_things_of_any_make(self):
        things = [None, True, False, 0, 1, 3, -1, 10 ** 40, "", "a", "heath 5", (), [], [[]], ((),), (None,) * 3]
        things += [[5, ["a"], []], (True, True, True), (3, 3, 3), ("a", "b", "c"), ((), (), ()), [(), (), ()]]
        things += [nested(make, deep) for make in (list, tuple) for deep in range(1, 9)]
        for thing in things:
            self.no(thing)

    def test_one_spot_of_a_plan_made_wrong(self):
        # None of these is right at any spot of a plan, so each makes it none.
        wrong = [None, True, False, 0, -1, 100, 10 ** 30, "", "A", "abcdefghi", "\u00e9", [], [()], (None,), ((),)]
        wrong += [["ash", "elm"], ("ash", 1), ("ash", None), (1, 2, 3), [1, 2, 3, 4], nested(tuple, 5), nested(list, 5)]
        for spot in spots(PLAN):
            self.assertIs(is_plan(put(PLAN, spot, at(PLAN, spot))), True)
            for worth in wrong:
                self.no(put(PLAN, spot, worth))

    def test_one_tuple_of_a_plan_made_a_list(self):
        for spot in spots(PLAN):
            if isinstance(at(PLAN, spot), tuple):
                self.no(put(PLAN, spot, list(at(PLAN, spot))))

    def test_every_rest_and_every_beats(self):
        for rest in range(-1, 28):
            for beats in range(-1, 14):
                right = 3 <= rest <= 24 and 1 <= beats <= 6 and 2 * beats + 1 <= rest
                self.assertIs(is_plan((rest, ("a", "b"), ways(1, beats))), right, (rest, beats))

    def test_a_thing_stays_as_it_was(self):
        for thing in (PLAN, list(PLAN), as_lists(PLAN), [5, ["b", "a"], []], (5, ["b", "a"], [("w", "a", "b", 1)])):
            ahead = copy.deepcopy(thing)
            is_plan(thing)
            self.assertEqual(thing, ahead)

    def test_asked_twice_it_tells_the_same(self):
        for thing in (PLAN, None, as_lists(PLAN)):
            self.assertIs(is_plan(thing), is_plan(thing))

    def test_a_plan_that_is_full(self):
        pairs = [(one, other) for one in "abcdefgh" for other in "abcdefgh" if one < other]
        lead = tuple((NAMES[at] * 8, *pair, 6) for at, pair in enumerate(pairs[:10]))
        self.yes((24, callers(8), lead))
        self.yes((13, callers(8), lead))
        self.no((12, callers(8), lead))


if __name__ == "__main__":
    unittest.main()
