"""Plans as texts."""

from hoarseheath.errors import BadRow
from hoarseheath.plans import LEAST_REST, is_plan
from hoarseheath.things import is_number_within
from hoarseheath.words import REST

FIGURES = "0123456789"


def plan_text(plan):
    """The text of a plan."""
    rest, callers, ways = plan
    rows = [f"heath {rest}"]
    rows.extend([f"caller {caller}" for caller in callers])
    rows.extend([f"way {name} {one} {other} {beats}" for name, one, other, beats in ways])
    return "\n".join(rows)


def plan_in(text):
    """The plan whose text this is."""
    rows = text.split("\n")
    plan = None
    for at, row in enumerate(rows):
        plan = _with_row(plan, row.split(" "))
        if plan is None:
            raise BadRow(at)
    # Of the row heath alone it's the beginning, but not yet the whole of a plan's text.
    if not is_plan(plan):
        raise BadRow(len(rows))
    return plan


def _with_row(plan, words):
    """What the rows so far tell of a plan with one row more, of these words; None where no plan's text begins so.

    Ahead of all rows that is None, behind the row heath a plan yet without callers.
    """
    if plan is None:
        return _rest_alone(words)
    rest, callers, ways = plan
    more = None
    if words[0] == "caller" and len(words) == 2 and not ways:
        more = rest, (*callers, words[1]), ways
    elif words[0] == "way" and len(words) == 5:
        more = rest, callers, (*ways, (*words[1:4], number_in(words[4])))
    return more if is_plan(more) else None


def _rest_alone(words):
    """What the row heath of these words tells; None where it's no such row."""
    if words[0] != "heath" or len(words) != 2:
        return None
    rest = number_in(words[1])
    return (rest, (), ()) if is_number_within(rest, LEAST_REST, REST) else None


def number_in(word):
    """The number that a word tells in plain figures; None where it isn't so written."""
    if not word or not all([sign in FIGURES for sign in word]):
        return None
    if word[0] == "0" and word != "0":
        return None
    return int(word)
