"""A desk: a heath and what is done to it, told row by row in a text, and the answers."""

from hoarseheath.errors import Apart, BadPlan, BadRow, Endless, Hoarse, NoCaller, NoWay, Tied
from hoarseheath.heath import Heath
from hoarseheath.heights import heights
from hoarseheath.plantexts import number_in, plan_in
from hoarseheath.things import is_name

MOST_BEATS = 10 ** 12
MOST_OF_TWO_FIGURES = 99


def _call(heath, caller):
    heath.call(caller)
    return "done"


def _cut(heath, way):
    heath.cut(way)
    return "done"


def _lay(heath, name, one, other, beats):
    heath.lay(name, one, other, int(beats))
    return "done"


def _settle(heath, caller):
    heath.settle(caller)
    return "done"


def _leave(heath, caller):
    heath.leave(caller)
    return "done"


def _go(heath, beats):
    return str(heath.go(beats=int(beats)))


def _rest(heath):
    return str(heath.rest())


def _undo(heath):
    return _yes_or_no(heath.undo())


def _beat(heath):
    return str(heath.beat())


def _lasts(heath):
    callers = heath.plan()[1]
    lasts = heath.picture()[1]
    return _row_of([(caller, "-" if last is None else last) for caller, last in zip(callers, lasts)])


def _owed(heath):
    return _row_of(heath.owed())


def _come(heath, caller):
    many = heath.to_come(caller)
    return "ever" if many is None else str(many)


def _pace(heath, caller):
    fraction = heath.pace(caller)
    if fraction is None:
        return "-"
    number, parts = fraction
    return f"{number}/{parts}"


def _height(heath, caller):
    told = heights(heath.plan(), heath.picture(), caller)
    return "-" if told is None else str(dict(told)[caller])


def _called(heath, caller):
    return str(heath.called(caller))


def _still(heath):
    return _yes_or_no(heath.is_still())


def _yes_or_no(so):
    """The word for whether something is so."""
    return "yes" if so else "no"


def _row_of(pairs):
    """The answer that tells pairs one behind the other."""
    return "; ".join([f"{one} {other}" for one, other in pairs]) or "-"


# For each first word of a row what the words behind it are.
KINDS = {
    "call": ("name",),
    "cut": ("name",),
    "lay": ("name", "name", "name", "figures"),
    "settle": ("name",),
    "leave": ("name",),
    "go": ("beats",),
    "rest": (),
    "undo": (),
    "beat": (),
    "lasts": (),
    "owed": (),
    "come": ("name",),
    "pace": ("name",),
    "height": ("name",),
    "called": ("name",),
    "still": (),
}

# For each of them what answers it.
DEEDS = {
    "call": _call,
    "cut": _cut,
    "lay": _lay,
    "settle": _settle,
    "leave": _leave,
    "go": _go,
    "rest": _rest,
    "undo": _undo,
    "beat": _beat,
    "lasts": _lasts,
    "owed": _owed,
    "come": _come,
    "pace": _pace,
    "height": _height,
    "called": _called,
    "still": _still,
}


def answers(text):
    """The list of answers to the rows of a text behind its row begin."""
    rows = text.split("\n")
    if "begin" not in rows:
        raise BadRow(len(rows))
    begin = rows.index("begin")
    # Where nothing is ahead of begin this is the empty text, which is refused with begin's own number, too.
    rest, callers, ways = plan_in("\n".join(rows[:begin]))
    for at, row in enumerate(rows):
        if at > begin and not _is_written(row):
            raise BadRow(at)
    heath = Heath(rest, callers=callers, ways=ways)
    return [_answer(heath, row) for row in rows[begin + 1:]]


def _is_written(row):
    """Whether a row behind begin is written as such rows are."""
    first, *words = row.split(" ")
    if first not in KINDS or len(words) != len(KINDS[first]):
        return False
    return all([_is_of_kind(word, kind) for word, kind in zip(words, KINDS[first])])


def _is_of_kind(word, kind):
    """Whether a word is a NAME, or figures that tell a number within its bounds."""
    if kind == "name":
        return is_name(word)
    number = number_in(word)
    return number is not None and number <= (MOST_BEATS if kind == "beats" else MOST_OF_TWO_FIGURES)


def _answer(heath, row):
    """The answer to a row."""
    first, *words = row.split(" ")
    answer = DEEDS[first]
    try:
        return answer(heath, *words)
    except (NoCaller, NoWay, Hoarse, BadPlan, Apart, Tied, Endless) as refused:
        return f"refused {type(refused).__name__}"
