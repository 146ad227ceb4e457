import re

from hoarseheath.desk import answers
from hoarseheath.errors import Apart, BadPlan, BadRow, Endless, Hoarse, NoCaller, NoWay, Tied
from hoarseheath.heath import Heath
from hoarseheath.heights import heights
from hoarseheath.plantexts import plan_in
from tests.heaths import Asking, Dice, texts_otherwise
from tests.test_plantexts import first_bad_row

HEATH = "heath 13\ncaller ash\ncaller elm\ncaller fir\ncaller oak\nway brook ash oak 6\nway lane ash elm 2\nway path elm oak 3"
FIVE = "heath 3\ncaller a\ncaller b\ncaller c\ncaller d\ncaller e\nway u a b 1\nway v b c 1\nway w c d 1\nway x d e 1"
KINDLING = ("call a", "go 2", "lay y a e 1")
FAR = 10 ** 12
ROW = re.compile(
    "(call|cut|settle|leave|come|pace|height|called) [a-z]{1,8}|lay [a-z]{1,8} [a-z]{1,8} [a-z]{1,8} (0|[1-9][0-9]?)|"
    "go (0|[1-9][0-9]{0,11}|1000000000000)|rest|undo|beat|lasts|owed|still"
)


def desk(rows, plan=HEATH):
    return answers("\n".join([plan, "begin", *rows]))


def first_row_not_so_written(text):
    """The number of the first row that isn't so written; None where all are."""
    rows = text.split("\n")
    if "begin" not in rows:
        return len(rows)
    begin = rows.index("begin")
    bad = first_bad_row("\n".join(rows[:begin])) if begin else 0
    if bad is not None:
        return bad
    return next((at for at, row in enumerate(rows) if at > begin and not ROW.fullmatch(row)), None)


def by_hand(heath, row):
    """The answer to a row, by the Heath to which it's done."""
    word, *given = row.split(" ")
    try:
        return told_by_hand(heath, word, given)
    except (NoCaller, NoWay, Hoarse, BadPlan, Apart, Tied, Endless) as refused:
        return "refused " + type(refused).__name__


def told_by_hand(heath, word, given):
    if word == "go":
        return str(heath.go(beats=int(given[0])))
    if word == "lay":
        heath.lay(*given[:3], int(given[3]))
        return "done"
    if word in ("call", "cut", "settle", "leave"):
        getattr(heath, word)(*given)
        return "done"
    if word in ("rest", "beat"):
        return str(getattr(heath, word)())
    if word in ("undo", "still"):
        return "yes" if (heath.undo if word == "undo" else heath.is_still)() else "no"
    if word == "lasts":
        rows = zip(heath.plan()[1], heath.picture()[1])
        return "; ".join(caller + " " + ("-" if last is None else str(last)) for caller, last in rows)
    if word == "owed":
        return "; ".join(way + " " + caller for way, caller in heath.owed()) or "-"
    if word == "come":
        many = heath.to_come(*given)
        return "ever" if many is None else str(many)
    if word == "pace":
        told = heath.pace(*given)
        return "-" if told is None else str(told[0]) + "/" + str(told[1])
    if word == "height":
        told = heights(heath.plan(), heath.picture(), *given)
        return "-" if told is None else str(dict(told)[given[0]])
    return str(heath.called(*given))


def some_row(dice, callers, ways):
    word = dice.pick((
        "call", "call", "call", "cut", "lay", "lay", "settle", "leave", "go", "go", "go", "rest", "undo", "beat", "lasts",
        "owed", "come", "pace", "height", "called", "still",
    ))
    if word == "lay":
        two = dice.pick(callers), dice.pick(callers)
        return " ".join(("lay", dice.pick(ways), *two, str(dice.pick((0, 1, 1, 1, 2, 3, 6, 7, 99)))))
    if word == "go":
        return "go " + str(dice.pick((0, 1, 1, 2, 3, 7, 30, FAR)))
    if word == "cut":
        return "cut " + dice.pick(ways)
    return word if word in ("rest", "undo", "beat", "lasts", "owed", "still") else word + " " + dice.pick(callers)


class Answers(Asking):
    def test_ordinary(self):
        rows = {
            "call ash": "done", "go 9": "2", "lasts": "ash 0; elm 2; fir -; oak 5", "beat": "9", "still": "no", "rest": "11",
            "call fir": "done", "called fir": "1", "undo": "yes", "called ash": "1",
        }
        self.same(desk(rows), list(rows.values()))

    def test_by_name(self):
        self.same(answers(text=HEATH + "\nbegin\nbeat"), ["0"])

    def test_nothing_behind_begin(self):
        self.same(desk([]), [])
        self.same(answers("heath 3\ncaller a\nbegin"), [])

    def test_each_deed(self):
        for row, due in (
            ("call ash", "done"), ("cut lane", "done"), ("lay moor fir ash 4", "done"), ("lay moor ash fir 4", "done"),
            ("settle birch", "done"), ("leave fir", "done"), ("go 0", "0"), ("go 1", "0"), ("rest", "0"), ("undo", "no"),
        ):
            self.same(desk([row]), [due])
            self.same(desk(["call oak", "go 1", row])[:2], ["done", "0"])

    def test_what_is_done_is_done(self):
        self.same(desk(["cut lane", "cut lane"]), ["done", "refused NoWay"])
        self.same(desk(["settle yew", "lasts", "leave yew", "lasts"]), [
            "done", "ash -; elm -; fir -; oak -; yew -", "done", "ash -; elm -; fir -; oak -",
        ])
        self.same(desk(["lay moor fir ash 4", "call fir", "owed", "undo", "undo", "undo", "owed"]), [
            "done", "done", "moor ash", "yes", "yes", "no", "-",
        ])

    def test_each_ask(self):
        rows = {
            "beat": "0", "lasts": "ash 0; elm -; fir -; oak -", "owed": "brook oak; lane elm", "come ash": "0",
            "come oak": "1", "come fir": "0", "pace ash": "-", "height ash": "0", "height elm": "1", "height fir": "0",
            "called ash": "1", "called oak": "0", "still": "no",
        }
        self.same(desk(["call ash", *rows]), ["done", *rows.values()])

    def test_for_ever(self):
        self.same(desk([*KINDLING, "come a", "pace a", "height a", "rest", "still", "go 1000000000000", "beat"], FIVE), [
            "done", "2", "done", "ever", "5/1", "-", "refused Endless", "no", "1000000000000", "1000000000002",
        ])

    def hand(self, plan, rows):
        rest, callers, ways = plan_in(plan)
        heath = Heath(rest, callers=callers, ways=ways)
        return [by_hand(heath, row) for row in rows]

    def test_a_pace_in_parts(self):
        callers = [f"caller {name}" for name in "abcdefg"]
        ways = [f"way {name} {one} {other} 1" for name, one, other in zip("pqrstu", "abcdef", "bcdefg")]
        # Twice a wave goes down the row, and when the way back is laid both go on round for ever.
        rows = ["call a", "go 3", "call a", "go 2", "lay v a g 1", "pace a", "come a", "height a", "go 7"]
        told = desk(rows, "\n".join(["heath 3", *callers, *ways]))
        self.same(told, self.hand("\n".join(["heath 3", *callers, *ways]), rows))
        self.same(told[5:], ["7/2", "ever", "-", "14"])

    def test_dashes(self):
        self.same(desk(["owed", "pace fir", "pace ash", "lasts"]), ["-", "-", "-", "ash -; elm -; fir -; oak -"])
        self.same(answers("heath 3\ncaller a\nbegin\nlasts\nowed\ncall a\nlasts"), ["a -", "-", "done", "a 0"])

    def test_refused(self):
        for row, word in (
            ("call heron", "NoCaller"), ("cut moor", "NoWay"), ("lay moor heron ash 1", "NoCaller"),
            ("lay moor ash heron 1", "NoCaller"), ("lay lane ash fir 1", "BadPlan"), ("lay moor ash ash 1", "BadPlan"),
            ("lay moor ash fir 0", "BadPlan"), ("lay moor ash fir 7", "BadPlan"), ("lay moor ash fir 99", "BadPlan"),
            ("settle ash", "BadPlan"), ("leave ash", "Tied"), ("leave heron", "NoCaller"), ("come heron", "NoCaller"),
            ("pace heron", "NoCaller"), ("height heron", "NoCaller"), ("called heron", "NoCaller"), ("call lane", "NoCaller"),
        ):
            self.same(desk([row]), ["refused " + word])
            self.same(desk([row, "undo", "call ash", row, "undo", "undo"]), [
                "refused " + word, "no", "done", "refused " + word, "yes", "no",
            ])
        self.same(desk(["call ash", "call ash", "lay moor ash fir 2"]), ["done", "refused Hoarse", "refused Apart"])

    def test_what_goes_first(self):
        self.same(desk(["lay lane heron ash 0", "lay lane ash ash 0"]), ["refused NoCaller", "refused BadPlan"])

    def test_numbers(self):
        for beats in (0, 1, 9, 10, 99, 100, 10 ** 6, FAR - 1, FAR):
            self.same(desk([f"go {beats}", "beat"]), ["0", str(beats)])
        for beats in (FAR + 1, 10 * FAR, 10 ** 13, 10 ** 60):
            self.refused(BadRow, 9, desk, [f"go {beats}"])
        for beats in ("", "00", "01", "-1", "+1", "1.0", "one", "x", "0x1", "1_0", "\u0661", "\u00b9", " 1", "1 "):
            self.refused(BadRow, 9, desk, [f"go {beats}"])
            self.refused(BadRow, 9, desk, [f"lay moor ash fir {beats}"])
        for beats in range(100):
            due = ["done"] if 1 <= beats <= 6 else ["refused BadPlan"]
            self.same(desk([f"lay moor ash fir {beats}"]), due)
        for beats in (100, 101, 999, FAR):
            self.refused(BadRow, 9, desk, [f"lay moor ash fir {beats}"])

    def test_names(self):
        for word in ("call", "settle", "leave", "come", "pace", "height", "called", "cut"):
            for name in ("", "A", "Ash", "toolongby", "a1", "1", "a-b", "\u00e4", "ash\t"):
                self.refused(BadRow, 9, desk, [f"{word} {name}"])
            for name in ("a", "abcdefgh", "begin", "zzzzzzzz"):
                self.assertEqual(len(desk([f"{word} {name}"])), 1)
        for names in (("Moor", "ash", "fir"), ("moor", "Ash", "fir"), ("moor", "ash", "Fir"), ("", "ash", "fir"), ("moor", "", "fir")):
            self.refused(BadRow, 9, desk, ["lay " + " ".join(names) + " 1"])

    def test_a_word_out_or_too_many(self):
        for row in (
            "call ash", "cut lane", "lay moor ash fir 1", "settle yew", "leave fir", "go 1", "rest", "undo", "beat", "lasts",
            "owed", "come ash", "pace ash", "height ash", "called ash", "still",
        ):
            self.same(len(desk([row])), 1)
            words = row.split(" ")
            for bad in (
                row + " ", " " + row, row + " x", row + " 1", row.upper(), words[0] + "s" + row[len(words[0]):], row[:-1] if len(words) == 1 else words[0],
                row.replace(" ", "  ", 1) if " " in row else row + "  ", " ".join(words[1:]), words[0] + "\t" + " ".join(words[1:]),
            ):
                self.refused(BadRow, 9, desk, [bad])
                self.refused(BadRow, 11, desk, ["beat", "still", bad, "x"])

    def test_no_begin(self):
        self.refused(BadRow, 1, answers, "")
        self.refused(BadRow, 8, answers, HEATH)
        self.refused(BadRow, 2, answers, "\n")
        self.refused(BadRow, 3, answers, "x\ny\nz")
        self.refused(BadRow, 9, answers, HEATH + "\nbegins")
        self.refused(BadRow, 10, answers, HEATH + "\n begin\nbeat")
        self.refused(BadRow, 10, answers, HEATH + "\nbegin \nbeat")
        self.refused(BadRow, 9, answers, HEATH + "\nBEGIN")
        self.refused(BadRow, 1, answers, "heath 5")

    def test_begin_twice(self):
        self.refused(BadRow, 9, answers, HEATH + "\nbegin\nbegin")
        self.refused(BadRow, 10, answers, HEATH + "\nbegin\nbeat\nbegin")
        self.refused(BadRow, 9, answers, HEATH + "\nbegin\nx\nbegin")

    def test_begin_too_early(self):
        rows = HEATH.split("\n")
        for at in range(2):
            self.refused(BadRow, at, answers, "\n".join([*rows[:at], "begin", *rows[at:]]))
        # Behind a caller it may stand, but then no row of a plan may.
        for at in range(2, 8):
            self.refused(BadRow, at + 1, answers, "\n".join([*rows[:at], "begin", *rows[at:]]))
            self.same(answers("\n".join([*rows[:at], "begin", "beat"])), ["0"])
        self.refused(BadRow, 0, answers, "begin")
        self.refused(BadRow, 0, answers, "begin\nbeat")
        self.refused(BadRow, 1, answers, "heath 5\nbegin")
        self.refused(BadRow, 1, answers, "heath 5\nbegin\nx")

    def test_rows_ahead_of_begin_as_plan_in_has_them(self):
        rows = HEATH.split("\n")
        for at in range(8):
            for row in ("", "x", "caller", "heath 13", "caller Ash", "beat", "way x ash elm 9"):
                if (at, row) == (0, "heath 13"):
                    continue
                bad = "\n".join([*rows[:at], row, *rows[at + 1:]])
                self.refused(BadRow, at, plan_in, bad)
                self.refused(BadRow, at, answers, bad + "\nbegin\nbeat")
                self.refused(BadRow, at, answers, bad + "\nbegin\nx")
        self.refused(BadRow, 0, answers, "\nbegin")
        self.refused(BadRow, 8, answers, HEATH + "\n\nbegin")
        self.refused(BadRow, 8, answers, HEATH + "\nbeat\nbegin")

    def test_bad_rows_ahead_of_all_answers(self):
        for row in ("", "x", "way moor ash fir 1", "caller yew", "heath 5", "begin", "log", "deeds", "wind"):
            self.refused(BadRow, 12, desk, ["call ash", "call heron", "rest", row])
            self.refused(BadRow, 9, desk, [row, "x"])
        self.refused(BadRow, 9, answers, HEATH + "\nbegin\n")
        self.refused(BadRow, 10, answers, HEATH + "\nbegin\nbeat\n")
        self.refused(BadRow, 10, answers, HEATH + "\nbegin\nbeat\n\nbeat")

    def test_rows_beside_a_heath(self):
        seen = {}
        for seed in range(60):
            dice = Dice(seed)
            plan = dice.pick((HEATH, FIVE, FIVE, FIVE, "heath 3\ncaller ash", "\n".join([FIVE, "way y a e 1", "way z b d 1"])))
            first = list(KINDLING) if plan == FIVE and dice.under(4) else []
            callers = [*[row.split(" ")[1] for row in plan.split("\n") if row.startswith("caller")], "yew", "bb"]
            rows = [*first, *[some_row(dice, callers, ("lane", "path", "u", "v", "x", "y", "moor")) for _ in range(100)]]
            told = desk(rows, plan)
            self.same(told, self.hand(plan, rows))
            for row, answer in zip(rows, told):
                kind = answer if not answer[:1].isdigit() and ";" not in answer else "number"
                seen[row.split(" ")[0], kind] = seen.get((row.split(" ")[0], kind), 0) + 1
        for pair in (
            ("call", "refused Hoarse"), ("call", "refused NoCaller"), ("cut", "refused NoWay"), ("lay", "refused BadPlan"),
            ("lay", "refused NoCaller"), ("lay", "refused Apart"), ("settle", "refused BadPlan"), ("leave", "refused Tied"),
            ("leave", "refused NoCaller"), ("rest", "refused Endless"), ("come", "ever"), ("pace", "-"), ("height", "-"),
            ("pace", "number"), ("undo", "yes"), ("still", "no"), ("still", "yes"), ("owed", "-"), ("go", "number"),
        ):
            self.assertGreater(seen.get(pair, 0), 0, pair)

    def test_texts_with_things_otherwise(self):
        good = 0
        words = ("call", "go", "lay", "begin", "heath", "caller", "way", "ash", "moor", "0", "1", "07", "100", "", "x", "rest", "-")
        text = HEATH + "\nbegin\ncall ash\ngo 3\nlay moor fir ash 4\nbeat\npace oak\nundo"
        for other in texts_otherwise(text, words, 3000, 20):
            bad = first_row_not_so_written(other)
            if bad is None:
                good += 1
                plan, deeds = other.split("\nbegin")
                self.same(answers(other), self.hand(plan, deeds.split("\n")[1:]))
            else:
                self.refused(BadRow, bad, answers, other)
        self.assertGreater(good, 200)

    def test_120_rows(self):
        rows = (["call ash", "go 13", "lasts"] * 37)[:111]
        text = "\n".join([HEATH, "begin", *rows])
        self.same(len(text.split("\n")), 120)
        told = answers(text)
        self.same(told, self.hand(HEATH, rows))
        self.same(told[-3:], ["done", "2", "ash 468; elm 470; fir -; oak 473"])

    def test_far_beats(self):
        rows = ["go 1000000000000"] * 50 + ["beat", "call ash", "rest", "lasts"]
        due = 50 * FAR
        self.same(desk(rows)[50:], [str(due), "done", str(due + 11), f"ash {due}; elm {due + 2}; fir -; oak {due + 5}"])

    def test_kinds(self):
        told = desk(["beat", "rest", "undo"])
        self.assertEqual((type(told), {type(row) for row in told}), (list, {str}))

    def test_what_is_handed_in_stays(self):
        self.keeps(answers, HEATH + "\nbegin\ncall ash\ngo 3\nlasts")
        self.assertEqual(BadRow.__bases__, (ValueError,))
        self.assertEqual(answers.__module__, "hoarseheath.desk")
