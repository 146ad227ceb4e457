import re

from hoarseheath.errors import BadRow
from hoarseheath.plans import is_plan
from hoarseheath.plantexts import plan_in, plan_text
from tests.heaths import NAMES, Asking, scenes, texts_otherwise, winding_scenes

PLAN = (13, ("ash", "elm", "oak"), (("brook", "ash", "oak", 6), ("lane", "ash", "elm", 1), ("path", "elm", "oak", 2)))
TEXT = "heath 13\ncaller ash\ncaller elm\ncaller oak\nway brook ash oak 6\nway lane ash elm 1\nway path elm oak 2"
ALONE = (3, ("ash",), ())
FULL = (24, tuple("abcdefgh"), tuple((name, "a", "h", 6) for name in "klmnopqrst"))

ROW = {
    "heath": re.compile(r"heath (0|[1-9][0-9]*)"),
    "caller": re.compile(r"caller ([a-z]{1,8})"),
    "way": re.compile(r"way ([a-z]{1,8}) ([a-z]{1,8}) ([a-z]{1,8}) (0|[1-9][0-9]*)"),
}


def first_bad_row(text):
    """The number of the first row by which it's no beginning of a plan's text; None where all may be."""
    rest, callers, ways = None, [], []
    for at, row in enumerate(text.split("\n")):
        heath, caller, way = (ROW[word].fullmatch(row) for word in ("heath", "caller", "way"))
        if at == 0:
            if not heath or not 3 <= int(heath[1]) <= 24:
                return at
            rest = int(heath[1])
        elif caller:
            if ways or len(callers) == 8 or (callers and callers[-1] >= caller[1]):
                return at
            callers.append(caller[1])
        elif way:
            name, one, other, beats = *way.groups()[:3], int(way[4])
            if not 1 <= beats <= 6 or 2 * beats + 1 > rest or one not in callers or other not in callers:
                return at
            if one >= other or len(ways) == 10 or (ways and ways[-1] >= name):
                return at
            ways.append(name)
        else:
            return at
    return None if callers else len(text.split("\n"))


class PlanText(Asking):
    def test_ordinary(self):
        self.same(plan_text(PLAN), TEXT)
        self.same(plan_text(ALONE), "heath 3\ncaller ash")

    def test_by_name(self):
        self.same(plan_text(plan=PLAN), TEXT)

    def test_there_and_back(self):
        for plan in (PLAN, ALONE, FULL, *[plan for plan, _, _ in (*scenes(200), *winding_scenes(100))]):
            text = plan_text(plan)
            self.same(plan_in(text), plan)
            self.same(text.count("\n"), len(plan[1]) + len(plan[2]))

    def test_the_longest(self):
        names = tuple(name * 8 for name in NAMES)
        ways = tuple((name * 8, "aaaaaaaa", "hhhhhhhh", 6) for name in "klmnopqrst")
        text = plan_text((24, names, ways))
        self.same(len(text.split("\n")), 19)
        self.same(plan_in(text), (24, names, ways))

    def test_what_is_handed_in_stays(self):
        self.keeps(plan_text, PLAN)


class PlanIn(Asking):
    def check(self, text):
        """The text is told of as it's looked at row by row here."""
        with self.subTest(text=text):
            bad = first_bad_row(text)
            if bad is None:
                told = plan_in(text)
                self.assertIs(is_plan(told), True)
                self.assertEqual(plan_text(told), text)
            else:
                self.refused(BadRow, bad, plan_in, text)
            return bad

    def test_ordinary(self):
        self.same(plan_in(TEXT), PLAN)
        self.same(plan_in("heath 3\ncaller ash"), ALONE)

    def test_by_name(self):
        self.same(plan_in(text=TEXT), PLAN)

    def test_what_the_document_names(self):
        self.refused(BadRow, 1, plan_in, "heath 5")
        self.refused(BadRow, 0, plan_in, "")
        self.refused(BadRow, 1, plan_in, text="heath 24")

    def test_beginnings(self):
        rows = TEXT.split("\n")
        for many in range(2, 8):
            self.same(plan_in("\n".join(rows[:many])), (13, PLAN[1][:many - 1], PLAN[2][:max(0, many - 4)]))

    def test_each_row_bad_in_its_turn(self):
        rows = TEXT.split("\n")
        for at in range(7):
            for row in ("", " ", "x", "begin", "heath", "caller", "way", "way x ash elm", "caller a b", "heath 5 5", "caller 5"):
                self.refused(BadRow, at, plan_in, "\n".join([*rows[:at], row, *rows[at + 1:]]))
                self.refused(BadRow, at, plan_in, "\n".join([*rows[:at], row, *rows[at:]]))
                self.refused(BadRow, at, plan_in, "\n".join([*rows[:at], row]))
        self.refused(BadRow, 7, plan_in, TEXT + "\n")
        self.refused(BadRow, 7, plan_in, TEXT + "\n\n")
        self.refused(BadRow, 0, plan_in, "\n" + TEXT)
        self.refused(BadRow, 0, plan_in, "\n")

    def test_rows_out_of_order(self):
        rows = TEXT.split("\n")
        for one in range(7):
            for other in range(one + 1, 7):
                row = list(rows)
                row[one], row[other] = row[other], row[one]
                self.assertIsNotNone(self.check("\n".join(row)))

    def test_ways_come_behind_all_callers(self):
        self.refused(BadRow, 4, plan_in, "heath 5\ncaller a\ncaller b\nway u a b 1\ncaller c")
        self.refused(BadRow, 1, plan_in, "heath 5\nway u a b 1")
        self.refused(BadRow, 2, plan_in, "heath 5\ncaller a\nway u a b 1\ncaller b")

    def test_a_row_out_or_twice(self):
        rows = TEXT.split("\n")
        for at in range(7):
            self.check("\n".join(rows[:at] + rows[at + 1:]))
            self.assertEqual(self.check("\n".join(rows[:at + 1] + rows[at:])), at + 1)

    def test_names(self):
        for name in ("a", "abcdefgh", "zzzzzzzz", "ashes"):
            self.same(plan_in(f"heath 3\ncaller {name}"), (3, (name,), ()))
        for name in ("abcdefghi", "", "A", "aB", "a1", "1", "a-b", "a_b", "a.", "'a'", "\u00e4", "a\t", "\ta", "a\r"):
            self.refused(BadRow, 1, plan_in, f"heath 3\ncaller {name}")
            self.refused(BadRow, 3, plan_in, f"heath 3\ncaller a\ncaller b\nway {name} a b 1")
        self.refused(BadRow, 2, plan_in, "heath 3\ncaller a\ncaller a")
        self.refused(BadRow, 2, plan_in, "heath 3\ncaller b\ncaller a")
        self.refused(BadRow, 4, plan_in, "heath 3\ncaller a\ncaller b\nway u a b 1\nway u a b 1")
        self.refused(BadRow, 4, plan_in, "heath 3\ncaller a\ncaller b\nway u a b 1\nway t a b 1")

    def test_a_ways_two(self):
        for one, other in (("b", "a"), ("a", "a"), ("a", "c"), ("c", "d"), ("", "a"), ("a", ""), ("A", "b")):
            self.refused(BadRow, 3, plan_in, f"heath 3\ncaller a\ncaller b\nway u {one} {other} 1")

    def test_rests(self):
        for rest in range(0, 130):
            text = f"heath {rest}\ncaller a"
            if 3 <= rest <= 24:
                self.same(plan_in(text), (rest, ("a",), ()))
            else:
                self.refused(BadRow, 0, plan_in, text)
        for rest in ("03", "003", "+3", "-3", "3.0", "3e0", "0x3", "1_0", "", "three", "\u0663", "\u00b2", " 3", "3 ", "9" * 100):
            self.refused(BadRow, 0, plan_in, f"heath {rest}\ncaller a")
            self.refused(BadRow, 0, plan_in, f"heath {rest}")

    def test_beats(self):
        for rest in range(3, 25):
            for beats in range(0, 14):
                text = f"heath {rest}\ncaller a\ncaller b\nway u a b {beats}"
                if 1 <= beats <= 6 and 2 * beats + 1 <= rest:
                    self.same(plan_in(text), (rest, ("a", "b"), (("u", "a", "b", beats),)))
                else:
                    self.refused(BadRow, 3, plan_in, text)
        for beats in ("01", "001", "+1", "-1", "1.0", "", "one", "\u0661", "\u00b9", " 1", "1 ", "0", "00", "9" * 90):
            self.refused(BadRow, 3, plan_in, f"heath 13\ncaller a\ncaller b\nway u a b {beats}")

    def test_blanks(self):
        rows = TEXT.split("\n")
        for at, row in enumerate(rows):
            for spot in range(len(row) + 1):
                for more in (" ", "  ", "\t"):
                    self.assertEqual(self.check("\n".join([*rows[:at], row[:spot] + more + row[spot:], *rows[at + 1:]])), at)

    def test_the_bounds_just_kept_and_just_passed(self):
        callers = [f"caller {name}" for name in "abcdefghi"]
        self.same(plan_in("\n".join(["heath 5", *callers[:8]])), (5, tuple("abcdefgh"), ()))
        self.refused(BadRow, 9, plan_in, "\n".join(["heath 5", *callers]))
        ways = [f"way {name} a b 1" for name in "klmnopqrstu"]
        self.same(len(plan_in("\n".join(["heath 5", *callers[:2], *ways[:10]]))[2]), 10)
        self.refused(BadRow, 13, plan_in, "\n".join(["heath 5", *callers[:2], *ways]))
        self.refused(BadRow, 9, plan_in, "\n".join(["heath 5", *callers, *ways]))

    def test_one_sign_otherwise_at_any_place(self):
        good = 0
        for at in range(len(TEXT)):
            for sign in " abzA0129-;\n":
                for text in (TEXT[:at] + sign + TEXT[at + 1:], TEXT[:at] + sign + TEXT[at:], TEXT[:at] + TEXT[at + 1:]):
                    good += self.check(text) is None
        self.assertGreater(good, 100)

    def test_two_things_otherwise(self):
        words = ("heath", "caller", "way", "ash", "elm", "oak", "fir", "brook", "lane", "zoo", "0", "1", "2", "13", "", "x")
        good = 0
        for text in texts_otherwise(TEXT, words, 4000, 19):
            good += self.check(text) is None
        self.assertGreater(good, 100)

    def test_any_signs(self):
        signs = [chr(code) for code in range(32, 127) if code != 37]
        for sign in signs:
            self.refused(BadRow, 0, plan_in, sign * 120)
            self.refused(BadRow, 1, plan_in, "heath 3\n" + sign * 120)
        self.refused(BadRow, 0, plan_in, "\n".join(["x" * 120] * 120))

    def test_other_things_that_part_rows_and_words(self):
        for text in ("heath 3\r\ncaller ash", "heath 3\rcaller ash", "heath\t3\ncaller ash", "heath 3\x0bcaller ash"):
            self.refused(BadRow, 0, plan_in, text)

    def test_what_is_handed_in_stays(self):
        self.keeps(plan_in, TEXT)
        self.assertEqual(BadRow.__bases__, (ValueError,))

    def test_each_is_made_in_its_own_file(self):
        for made in (plan_text, plan_in):
            self.assertEqual(made.__module__, "hoarseheath.plantexts")
