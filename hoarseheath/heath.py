"""A heath that is kept over many deeds."""

from hoarseheath.coming import still_from, to_come
from hoarseheath.cuts import cut_out
from hoarseheath.errors import Apart, BadPlan, Hoarse, NoDeed, Tied
from hoarseheath.leaps import leap
from hoarseheath.paces import pace
from hoarseheath.pictures import begun, is_apart, is_free, lasts_by_caller, on_ways, owed, picture_by, with_call
from hoarseheath.plans import check_caller, in_order, is_plan, way_between, ways_at
from hoarseheath.plantexts import plan_text
from hoarseheath.rings import wind


class Deed:
    """A deed at work: the log gets both its ends, refused or not."""

    def __init__(self, rows, word):
        self.rows = rows
        self.word = word

    def __enter__(self):
        self.rows.append(("in", self.word))

    def __exit__(self, kind, value, trace):
        self.rows.append(("out", self.word))


class Heath:
    """A plan and its picture, and all the deeds by which they came about.

    Behind each deed that stands how all stood is kept, the triple (plan, picture, calls so far of each caller): none
    of them is ever changed, so that undoing is forgetting the last one. A deed adds its own when all else of it is
    done, so that a refused one leaves none.
    """

    def __init__(self, rest, *, callers, ways=()):
        plan = in_order(rest, callers, [way_between(*way) for way in ways])
        if not is_plan(plan):
            raise BadPlan(None)
        self._states = [(plan, begun(plan), {caller: 0 for caller in plan[1]})]
        self._log = []

    def call(self, caller):
        """It calls in this beat."""
        with Deed(self._log, "call"):
            plan, picture, calls = self._states[-1]
            check_caller(plan, caller)
            if not is_free(plan, picture, caller):
                raise Hoarse(caller)
            self._states.append((plan, with_call(plan, picture, caller), {**calls, caller: calls[caller] + 1}))

    def cut(self, way):
        """The way is gone, and what's on it."""
        with Deed(self._log, "cut"):
            plan, picture, calls = self._states[-1]
            self._states.append((cut_out(plan, [way]), picture, calls))

    def lay(self, name, one, other, beats):
        """A new way between two callers."""
        with Deed(self._log, "lay"):
            plan, picture, calls = self._states[-1]
            check_caller(plan, one)
            check_caller(plan, other)
            rest, callers, ways = plan
            way = way_between(name, one, other, beats)
            grown = in_order(rest, callers, [*ways, way])
            if not is_plan(grown):
                raise BadPlan(name)
            if is_apart(grown, picture, way):
                raise Apart(name)
            self._states.append((grown, picture, calls))

    def settle(self, caller):
        """One more caller, that hasn't called."""
        with Deed(self._log, "settle"):
            plan, picture, calls = self._states[-1]
            rest, callers, ways = plan
            grown = in_order(rest, [*callers, caller], ways)
            if not is_plan(grown):
                raise BadPlan(caller)
            later = picture_by(grown, picture[0], lasts_by_caller(plan, picture))
            self._states.append((grown, later, {**calls, caller: 0}))

    def leave(self, caller):
        """The caller is gone."""
        with Deed(self._log, "leave"):
            plan, picture, calls = self._states[-1]
            rest, callers, ways = plan
            if ways_at(plan, caller) or len(callers) == 1:
                raise Tied(caller)
            left = (rest, tuple([here for here in callers if here != caller]), ways)
            later = picture_by(left, picture[0], lasts_by_caller(plan, picture))
            self._states.append((left, later, {here: calls[here] for here in left[1]}))

    def go(self, *, beats=1):
        """So many beats go by; told is how many calls came."""
        with Deed(self._log, "go"):
            # Of less than no beats none goes by, as run has it.
            return self._leap_to(self.beat() + max(0, beats))

    def rest(self):
        """All goes on till no call is on its way; told is the beat."""
        with Deed(self._log, "rest"):
            plan, picture, _ = self._states[-1]
            beat = still_from(plan, picture)
            self._leap_to(beat)
            return beat

    def _leap_to(self, beat):
        """All goes on to a beat; told is how many calls came."""
        plan, picture, calls = self._states[-1]
        later, more = leap(plan, picture, beat)
        self._states.append((plan, later, {caller: calls[caller] + more[caller] for caller in plan[1]}))
        return sum(more.values())

    def undo(self):
        """The last deed that stands is as if it hadn't been; told is whether there was one."""
        with Deed(self._log, "undo"):
            if self.deeds() == 0:
                return False
            self._states.pop()
            return True

    def plan(self):
        """The PLAN as it is now."""
        return self._states[-1][0]

    def picture(self):
        """The PICTURE as it is now."""
        return self._states[-1][1]

    def beat(self):
        """The beat as it is now."""
        return self.picture()[0]

    def called(self, caller):
        """How many calls a caller made so far."""
        check_caller(self.plan(), caller)
        return self._states[-1][2][caller]

    def wind(self, ring):
        """The wind of a RING of the plan."""
        return wind(self.plan(), self.picture(), ring)

    def is_still(self):
        """Whether no call is on its way."""
        return on_ways(self.plan(), self.picture()) == []

    def to_come(self, caller):
        """How many calls of a caller are to come; None where they never end."""
        return to_come(self.plan(), self.picture(), caller)

    def pace(self, caller):
        """The fraction of the beats from call to call in the long run; None where the part gets quiet."""
        return pace(self.plan(), self.picture(), caller)

    def owed(self):
        """The rising list of pairs (way, caller that owes)."""
        return owed(self.plan(), self.picture())

    def deeds(self):
        """How many deeds are done and not undone."""
        return len(self._states) - 1

    def as_of(self, many):
        """A Heath of its own, as this one was behind so many deeds."""
        if not 0 <= many <= self.deeds():
            raise NoDeed(many)
        rest, callers, ways = self.plan()
        other = Heath(rest, callers=callers, ways=ways)
        other._states = self._states[:many + 1]
        return other

    def twin(self):
        """A Heath of its own, as this one is."""
        return self.as_of(self.deeds())

    def log(self):
        """The list of pairs ("in", word), ("out", word) of all deeds so far."""
        return list(self._log)

    def is_open(self):
        """Whether no deed is at work."""
        return not self._log or self._log[-1][0] == "out"

    def __eq__(self, other):
        return isinstance(other, Heath) and self._states[-1] == other._states[-1]

    def __len__(self):
        return len(self._states[-1][0][1])

    def __str__(self):
        return str(plan_text(self._states[-1][0]))
