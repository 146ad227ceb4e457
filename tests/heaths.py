"""What the tests share: a heath told call by call, apart from the program, pictures, and checks."""

import copy
import functools
import itertools
import math
import unittest

NAMES = tuple("abcdefgh")

# Two rings of unlike pace, each a part.
RINGS = (
    5,
    ("a", "b", "c", "d", "e", "f", "g"),
    (
        ("p", "a", "b", 2), ("q", "b", "c", 2), ("r", "a", "c", 1),
        ("s", "d", "e", 2), ("t", "e", "f", 2), ("u", "f", "g", 2), ("v", "d", "g", 1),
    ),
)
WAVES = (9, (5, 7, 9, 3, 5, 7, 9))
# Two rings, the one a beat slower, and ways between them so long that the quicker one takes some hundred beats to win.
LATE = (
    13,
    ("a", "b", "c", "d", "e", "f", "g", "h"),
    (
        ("k", "a", "g", 5), ("l", "e", "f", 6), ("m", "c", "h", 6), ("n", "c", "e", 6), ("o", "g", "h", 6),
        ("p", "b", "f", 6), ("q", "b", "e", 6), ("r", "a", "d", 6), ("s", "d", "g", 6),
    ),
)
SLOW = (100, (97, 100, 88, 92, 97, 91, 99, 93))


class Dice:
    """Numbers that look like chance and are the same each time."""

    def __init__(self, seed):
        self.state = seed * 7919 + 17

    def under(self, many):
        self.state = (self.state * 6364136223846793005 + 1442695040888963407) % 2 ** 64
        return (self.state >> 33) % many

    def pick(self, rows):
        return rows[self.under(len(rows))]


class Field:
    """A heath that keeps each call and each call that flies: what the program tells is held against it."""

    def __init__(self, rest, callers):
        self.rest = rest
        self.beat = 0
        self.called = {caller: [] for caller in callers}
        self.ways = {}
        self.since = {}
        self.flying = []

    @staticmethod
    def of(plan, picture):
        field = Field(plan[0], plan[1])
        field.beat = picture[0]
        for caller, last in zip(plan[1], picture[1]):
            field.called[caller] = [] if last is None else [last]
        for way in plan[2]:
            field.add_way(way)
            name, one, other, _ = way
            for here, there in ((one, other), (other, one)):
                if field.would_owe(here, there, way[3]):
                    field.since[name][there] = list(field.called[there])
        return field

    def free(self, caller):
        return max([self.beat] + [last + self.rest for last in self.called[caller][-1:]])

    def flies(self, caller, beats):
        return bool(self.called[caller]) and self.called[caller][-1] + beats > self.beat

    def would_owe(self, here, there, beats):
        """Whether here, by a way of so many beats, owes there an answer."""
        if not self.flies(there, beats):
            return False
        return not self.called[here] or self.called[there][-1] - self.called[here][-1] > beats

    def add_way(self, way):
        name, one, other, beats = way
        self.ways[name] = way
        self.since[name] = {one: [], other: []}
        for here, there in ((one, other), (other, one)):
            if self.flies(here, beats):
                self.flying.append((self.called[here][-1] + beats, there, name))

    def may_lay(self, way):
        name, one, other, beats = way
        if name in self.ways or len(self.ways) == 10 or 2 * beats + 1 > self.rest or not one < other:
            return False
        if self.would_owe(one, other, beats) or self.would_owe(other, one, beats):
            return False
        return abs(self.free(one) - self.free(other)) <= beats

    def cut(self, name):
        del self.ways[name]
        del self.since[name]
        self.flying = [call for call in self.flying if call[2] != name]

    def may_call(self, caller):
        return self.free(caller) == self.beat

    def call(self, caller):
        self.called[caller].append(self.beat)
        for name, one, other, beats in self.ways.values():
            if caller in (one, other):
                self.since[name][caller].append(self.beat)
                self.flying.append((self.beat + beats, other if caller == one else one, name))

    def go(self, beats=1):
        """So many beats go by; told are the calls."""
        calls = []
        for _ in range(beats):
            self.beat += 1
            heard = {caller for beat, caller, _ in self.flying if beat == self.beat}
            self.flying = [call for call in self.flying if call[0] > self.beat]
            for caller in sorted(heard):
                if self.may_call(caller):
                    self.call(caller)
                    calls.append((self.beat, caller))
        return calls

    def lean(self, name):
        _, one, other, _ = self.ways[name]
        return len(self.since[name][one]) - len(self.since[name][other])

    def wind(self, ring):
        return sum(self.lean(way) * (1 if self.ways[way][1] == caller else -1) for caller, way in ring)

    def part(self, caller):
        part = {caller}
        for _ in self.called:
            for _, one, other, _ in self.ways.values():
                if one in part or other in part:
                    part |= {one, other}
        return sorted(part)

    def to_come(self, caller):
        """All calls to come of a caller's part; None where they go on longer than any wave takes."""
        ahead = copy.deepcopy(self)
        part = self.part(caller)
        # Each wave starts at a call that was and passes seven ways of six beats at most.
        calls = [pair for pair in ahead.go(60) if pair[1] in part]
        return None if any(hearer in part for _, hearer, _ in ahead.flying) else calls

    def pace(self, caller):
        """The fraction by the first state of the part that comes back."""
        ahead = copy.deepcopy(self)
        part = self.part(caller)
        seen = {}
        while True:
            state = tuple(min([self.rest] + [ahead.beat - beat for beat in ahead.called[one][-1:]]) for one in part)
            if state in seen:
                break
            seen[state] = (ahead.beat, [len(ahead.called[one]) for one in part])
            ahead.go()
        beat, calls = seen[state]
        many = {len(ahead.called[one]) - ahead_of for one, ahead_of in zip(part, calls)}
        assert len(many) == 1 and many != {0}
        return in_lowest_terms(ahead.beat - beat, many.pop())

    def plan(self):
        return (self.rest, tuple(sorted(self.called)), tuple(self.ways[name] for name in sorted(self.ways)))

    def picture(self):
        return (self.beat, tuple(([None] + self.called[caller])[-1] for caller in sorted(self.called)))


def in_lowest_terms(number, parts):
    by = math.gcd(number, parts)
    return number // by, parts // by


def circling(rest, beats, waves, about=1):
    """The plan and a picture of one ring of ways of these beats, round which so many waves go, this way about."""
    many, whole = len(beats), sum(beats)
    places = list(range(many)) if about == 1 else [0, *range(many - 1, 0, -1)]
    steps = list(beats) if about == 1 else list(reversed(beats))
    start = list(itertools.accumulate([0] + steps))
    due = [None] * many
    for at, place in enumerate(places):
        due[place] = max(start[at] + whole * k // waves for k in range(3 * waves) if
                         start[at] + whole * k // waves <= 2 * whole)
    ways = tuple(
        (name, *sorted((NAMES[at], NAMES[(at + 1) % many])), long)
        for name, at, long in zip("nopqrstu", range(many), beats)
    )
    return (rest, NAMES[:many], ways), (2 * whole, tuple(due))


def round_ring(plan):
    """The ring of a plan that circling made, gone through as the callers rise."""
    return [(caller, way[0]) for caller, way in zip(plan[1], plan[2])]


def turned(ring):
    """The same ring, the other way about."""
    callers = [caller for caller, _ in ring]
    ways = [way for _, way in ring]
    return list(zip(reversed(callers), reversed(ways[-1:] + ways[:-1])))


def shifted(picture, by):
    beat, lasts = picture
    return beat + by, tuple(None if last is None else last + by for last in lasts)


def deeds(field, dice, many, spare=()):
    """So many things happen on a field: calls of hands, ways cut and laid, beats. Ways to spare aren't cut."""
    callers = sorted(field.called)
    for _ in range(many):
        kind = dice.under(10)
        if kind < 3:
            caller = dice.pick(callers)
            if field.may_call(caller):
                field.call(caller)
        elif kind < 4 and dice.under(3) == 0:
            rows = [name for name in sorted(field.ways) if name not in spare]
            if rows:
                field.cut(dice.pick(rows))
        elif kind < 7 and len(callers) > 1:
            for _ in range(4):
                one, other = sorted((dice.pick(callers), dice.pick(callers)))
                way = (dice.pick("klmnopqrstuvwxyz"), one, other, 1 + dice.under(6))
                if field.may_lay(way):
                    field.add_way(way)
        else:
            field.go(1 + dice.under(5))


def made_field(seed):
    dice = Dice(seed)
    if seed % 3 == 0:
        many = 3 + dice.under(6)
        most = 1 + dice.under(6)
        beats = [1 + dice.under(most) for _ in range(many)]
        rest = max(3, 2 * max(beats) + 1 + dice.under(3))
        waves = sum(beats) // rest
        if waves and rest <= 24:
            field = Field.of(*circling(rest, beats, 1 + dice.under(waves), dice.pick((1, -1))))
            deeds(field, dice, dice.under(20))
            return field
    field = Field(3 + dice.under(22), NAMES[:1 + dice.under(8)])
    deeds(field, dice, 20 + dice.under(60))
    return field


@functools.lru_cache(maxsize=None)
def scenes(many):
    """So many triples (plan, picture, field), behind deeds."""
    fields = [made_field(seed) for seed in range(many)]
    return [(field.plan(), field.picture(), field) for field in fields]


@functools.lru_cache(maxsize=None)
def small_pictures():
    """All pictures at one beat of a ring of three and of a triangle with two ways at one side."""
    rows = []
    for plan in (
        (3, ("a", "b", "c"), (("u", "a", "b", 1), ("v", "b", "c", 1), ("w", "a", "c", 1))),
        (5, ("a", "b", "c"), (("u", "a", "b", 1), ("v", "b", "c", 2), ("w", "a", "c", 2))),
        (7, ("a", "b", "c"), (("u", "a", "b", 3), ("v", "a", "c", 3), ("w", "b", "c", 1), ("x", "b", "c", 3))),
    ):
        beat = plan[0] + 2
        for lasts in itertools.product((None, *range(beat + 1)), repeat=3):
            if right_picture(plan, (beat, lasts)):
                rows.append((plan, (beat, lasts), Field.of(plan, (beat, lasts))))
    return rows


def far_apart(rest, beats, ages):
    """Whether by a way of so many beats two of these ages (rest is free) are out of step."""
    owing = [(rest - mine, beats - its) for mine, its in (ages, ages[::-1]) if its < beats and mine > its + beats]
    if owing:
        return any(free > heard for free, heard in owing)
    return abs(ages[0] - ages[1]) > beats


def winding_scene(dice):
    """A plan and a picture: waves at uneven distances round a ring, and ways across it that are in step."""
    many, most = 3 + dice.under(6), 1 + dice.under(6)
    rest = 2 * most + 1 + dice.under(3) * dice.under(2)
    beats = [max(1, most - dice.under(3)) for _ in range(many)]
    whole = sum(beats)
    if whole < rest or rest > 24:
        return winding_scene(dice)
    gaps = [rest] * (1 + dice.under(whole // rest))
    for _ in range(whole - sum(gaps)):
        gaps[dice.under(len(gaps))] += 1
    shift = dice.under(whole)
    waves = [shift + sum(gaps[:at]) for at in range(len(gaps))]
    ages = [min([rest] + [(wave - sum(beats[:at])) % whole for wave in waves]) for at in range(many)]
    order = sorted(range(many), key=lambda at: dice.under(1000))
    ways = [(order[at], order[(at + 1) % many], long) for at, long in enumerate(beats)]
    age = {order[at]: ages[at] for at in range(many)}
    for _ in range(dice.under(12)):
        one, other, long = dice.under(many), dice.under(many), 1 + dice.under(most)
        if one != other and len(ways) < 10 and not far_apart(rest, long, (age[one], age[other])):
            ways.append((one, other, long))
    beat = 50 + dice.under(3)
    plan = (rest, NAMES[:many], tuple(
        (name, NAMES[min(way[:2])], NAMES[max(way[:2])], way[2]) for name, way in zip("klmnopqrst", ways)
    ))
    return plan, (beat, tuple(None if age[at] == rest else beat - age[at] for at in range(many)))


def ragged_scene(dice):
    """A plan and a picture of any ages that are in step, where it so comes that all goes on for ever."""
    while True:
        many, most = 4 + dice.under(5), dice.pick((6, 6, 5, 4, 2))
        rest = 2 * most + 1
        ways = [(at, at - 1 - dice.under(min(at, 2)), most - dice.under(2)) for at in range(1, many)]
        while len(ways) < 10:
            one, other = dice.under(many), dice.under(many)
            if one != other:
                ways.append((one, other, most - dice.under(2)))
        age = {}
        for at in range(many):
            near = [(age[sum(way[:2]) - at], way[2]) for way in ways if at in way[:2] and sum(way[:2]) - at in age]
            fits = [mine for mine in range(rest + 1)
                    if not any(far_apart(rest, long, (mine, its)) for its, long in near)]
            if not fits:
                break
            age[at] = dice.pick(fits)
        if len(age) < many:
            continue
        plan = (rest, NAMES[:many], tuple(
            (name, NAMES[min(way[:2])], NAMES[max(way[:2])], way[2]) for name, way in zip("klmnopqrst", ways)
        ))
        picture = 50, tuple(None if age[at] == rest else 50 - age[at] for at in range(many))
        if Field.of(plan, picture).to_come("a") is None:
            return plan, picture


@functools.lru_cache(maxsize=None)
def winding_scenes(many):
    """So many triples (plan, picture, field), all of them for ever."""
    dice = Dice(many)
    rows = [(winding_scene, ragged_scene)[at % 2](dice) for at in range(many)]
    return [(plan, picture, Field.of(plan, picture)) for plan, picture in rows]


class Far:
    """The calls to come of a part of a field, however far on, by the first state of it that comes back."""

    def __init__(self, field, caller):
        ahead = copy.deepcopy(field)
        self.part = ahead.part(caller)
        self.now = ahead.beat
        self.calls = {one: [] for one in self.part}
        seen = {}
        while True:
            state = tuple(min([ahead.rest] + [ahead.beat - beat for beat in ahead.called[one][-1:]])
                          for one in self.part)
            if state in seen:
                break
            seen[state] = ahead.beat
            for beat, one in ahead.go():
                if one in self.calls:
                    self.calls[one].append(beat)
        self.back = seen[state]
        self.many = ahead.beat - self.back

    def often(self, caller):
        return len([beat for beat in self.calls[caller] if beat > self.back])

    def till(self, caller, beat):
        """How many calls to come a caller makes up to a beat, that one too."""
        told = 0
        for call in self.calls[caller]:
            if call <= beat:
                told += 1 if call <= self.back else 1 + (beat - call) // self.many
        return told

    def call(self, caller, number):
        """The beat of its number-th call to come."""
        if not self.often(caller):
            return self.calls[caller][number - 1] if number <= len(self.calls[caller]) else None
        low, high = self.now, self.now + 1
        while self.till(caller, high) < number:
            high = self.now + 2 * (high - self.now)
        while high - low > 1:
            middle = (low + high) // 2
            low, high = (low, middle) if self.till(caller, middle) >= number else (middle, high)
        return high

    def calls_at(self, beat):
        """Who of the part calls in a beat that is to come."""
        return [one for one in self.part if self.till(one, beat) > self.till(one, beat - 1)]

    def round(self):
        """(first, many, calls), looked for beat by beat; None where it gets quiet."""
        if not any(map(self.often, self.part)):
            return None
        rows = {beat: self.calls_at(beat) for beat in range(self.now + 1, self.back + 3 * self.many + 1)}
        ends = range(self.back + 1, self.back + self.many + 1)
        many = next(many for many in range(1, self.many + 1) if all(rows[beat] == rows[beat + many] for beat in ends))
        first = self.back + 1
        while first - 1 in rows and rows[first - 1] == rows[first - 1 + many]:
            first -= 1
        often = {sum(one in rows[beat] for beat in range(first, first + many)) for one in self.part}
        assert len(often) == 1
        return first, many, often.pop()


def far_picture(field, beat):
    """The picture of a field at a beat that is to come, however far on."""
    lasts = {}
    for caller in field.called:
        far = Far(field, caller)
        number = far.till(caller, beat)
        lasts[caller] = far.call(caller, number) if number else ([None] + field.called[caller])[-1]
    return beat, tuple(lasts[caller] for caller in sorted(lasts))


def is_plain(thing):
    return type(thing) is int


def right_picture(plan, thing):
    """Whether a thing is a picture, straight by the document's words."""
    rest, callers, ways = plan
    if type(thing) is not tuple or len(thing) != 2:
        return False
    beat, lasts = thing
    if not is_plain(beat) or beat < 0 or type(lasts) is not tuple or len(lasts) != len(callers):
        return False
    for last in lasts:
        if last is not None and not (is_plain(last) and 0 <= last <= beat):
            return False
    last = dict(zip(callers, lasts))
    free = {one: beat if last[one] is None or last[one] + rest < beat else last[one] + rest for one in callers}
    for _, one, other, beats in ways:
        owing = []
        for here, there in ((one, other), (other, one)):
            if last[there] is not None and beat < last[there] + beats:
                if last[here] is None or last[there] - last[here] > beats:
                    owing.append((here, last[there] + beats))
        if not owing and abs(free[one] - free[other]) > beats:
            return False
        if any(free[here] > heard for here, heard in owing):
            return False
    return True


def right_ring(plan, thing):
    """Whether a thing is a ring, straight by the document's words."""
    if type(thing) is not list or len(thing) < 2:
        return False
    if any(type(pair) is not tuple or len(pair) != 2 for pair in thing):
        return False
    ends = {name: {one, other} for name, one, other, _ in plan[2]}
    for at, (caller, way) in enumerate(thing):
        there = thing[(at + 1) % len(thing)][0]
        if type(caller) is not str or type(way) is not str or type(there) is not str:
            return False
        if way not in ends or ends[way] != {caller, there}:
            return False
    return len({caller for caller, _ in thing}) == len({way for _, way in thing}) == len(thing)


def beats_of(plan, ring):
    beats = {name: long for name, _, _, long in plan[2]}
    return sum(beats[way] for _, way in ring)


def all_rings(plan):
    """All rings of a plan, begun anywhere, each way about."""
    told = []
    for many in range(2, min(len(plan[1]), len(plan[2])) + 1):
        for ways in itertools.combinations(plan[2], many):
            at = {}
            for _, one, other, _ in ways:
                at[one] = at.get(one, 0) + 1
                at[other] = at.get(other, 0) + 1
            if len(at) == many and set(at.values()) == {2}:
                told.extend(rings_through(ways, many))
    return told


def rings_through(ways, many):
    rings = []
    for first in sorted({way[1] for way in ways} | {way[2] for way in ways}):
        for begin in ways:
            if first not in begin[1:3]:
                continue
            ring, here, way = [], first, begin
            while True:
                ring.append((here, way[0]))
                here = way[2] if here == way[1] else way[1]
                if here == first:
                    break
                way = next(more for more in ways if here in more[1:3] and more[0] != way[0])
            if len(ring) == many:
                rings.append(ring)
    return rings


def nested(make, deep):
    thing = 1
    for _ in range(deep):
        thing = make([thing])
    return thing


ANY = (
    None, True, False, 0, 1, 2, -1, 10 ** 30, "", "a", "ab", "bell", (), [], [[]], ((),), [()], ([],), (None,), (0, ()),
    (0, (None,)), [0, [None]], (None, None), ((None,), 0), (True, (None, None)), (1, 2), (1, 1), ((1, 1), [], []), "ab",
    [("a", 0)], [("a", True)], [["a", 0]], (("a", 0),), [("a",)], [("a", 0, 0)], [("a", "u")], [("a", "u"), ("b", "u")],
    [None, None], [1, 2], ["ab", "ba"], [("a", None), (None, "u")], [([], []), ([], [])], [((), ()), ((), ())],
    [(("a",), ("u",)), (("b",), ("v",))], [(True, True), (False, False)],
    *(nested(make, deep) for make in (list, tuple) for deep in (2, 5, 8)),
)


def others_for(thing):
    """Things that may stand in the place of another one, each unlike it."""
    if type(thing) is int:
        rows = [thing + 1, thing - 1, -thing, str(thing), None, [thing], (thing,), bool(thing), "a"]
    elif type(thing) is str:
        rows = [thing + "a", thing[:-1], thing.upper(), "zzz", None, 0, True, [thing], (thing,), list(thing)]
    elif thing is None:
        rows = [0, -1, False, True, "", "None", (), []]
    elif type(thing) in (list, tuple):
        make, unlike = (list, tuple) if type(thing) is list else (tuple, list)
        rows = [unlike(thing), make(reversed(thing)), make([*thing, *thing]), make(), None, 1, True, "ab", [thing]]
        for at in range(len(thing)):
            rows.append(make([*thing[:at], *thing[at + 1:]]))
            rows.append(make([*thing[:at + 1], *thing[at:]]))
            rows.append(make([*thing[:at], None, *thing[at:]]))
            for behind in range(at + 1, len(thing)):
                row = list(thing)
                row[at], row[behind] = row[behind], row[at]
                rows.append(make(row))
    else:
        rows = [int(thing), not thing, None]
    return [row for row in rows if repr(row) != repr(thing)]


def otherwise(thing):
    """A thing with one thing otherwise, at any place and depth."""
    rows = others_for(thing)
    if type(thing) in (list, tuple):
        for at, inner in enumerate(thing):
            for other in otherwise(inner):
                row = [*thing[:at], other, *thing[at + 1:]]
                rows.append(row if type(thing) is list else tuple(row))
    return rows


def twice_otherwise(thing, many):
    """Some of the things with two things otherwise."""
    dice = Dice(len(repr(thing)))
    once = otherwise(thing)
    rows = []
    for _ in range(many):
        again = otherwise(dice.pick(once))
        if again:
            rows.append(dice.pick(again))
    return [row for row in rows if repr(row) != repr(thing)]


def texts_otherwise(text, words, many, seed):
    """Some texts with one thing otherwise or two: words, and rows out, twice, exchanged."""
    dice = Dice(seed)
    texts = []
    for _ in range(many):
        rows = [row.split(" ") for row in text.split("\n")]
        for _ in range(1 + dice.under(2)):
            kind, at = dice.under(6), dice.under(len(rows))
            spot = dice.under(len(rows[at]) or 1)
            if kind == 0:
                rows[at][spot:spot + 1] = [dice.pick(words)]
            elif kind == 1:
                rows[at].insert(spot, dice.pick(words))
            elif kind == 2:
                del rows[at][spot:spot + 1]
            elif kind == 3 and len(rows) > 1:
                del rows[at]
            elif kind == 4:
                rows.insert(at, [*dice.pick(rows)])
            else:
                other = dice.under(len(rows))
                rows[at], rows[other] = rows[other], rows[at]
        texts.append("\n".join(" ".join(row) for row in rows))
    return texts


def lists_in(thing):
    """Each list within a thing."""
    rows = [thing] if isinstance(thing, list) else []
    if isinstance(thing, (list, tuple)):
        for inner in thing:
            rows.extend(lists_in(inner))
    return rows


class Asking(unittest.TestCase):
    """Checks that most tests need. Things are held against each other by repr, to which 1 and True are unlike."""

    def same(self, told, due):
        self.assertEqual(repr(told), repr(due))

    def refused(self, error, what, ask, *given, **named):
        with self.assertRaises(error) as caught:
            ask(*given, **named)
        self.assertIs(type(caught.exception), error)
        self.same(vars(caught.exception), {"what": what})

    def keeps(self, ask, *given):
        """What is handed in stays as it was, and what is told is the asker's own, the same each time."""
        ahead = repr(given)
        first = ask(*given)
        due = repr(first)
        second = ask(*given)
        self.assertEqual(repr(given), ahead)
        self.assertEqual(repr(second), due)
        lists = lists_in(first) + lists_in(second) + lists_in(given)
        self.assertEqual(len({id(row) for row in lists}), len(lists))
        for row in lists_in(first):
            row.reverse()
            row.append("more")
        self.assertEqual(repr(second), due)
        self.assertEqual(repr(given), ahead)
        self.assertEqual(repr(ask(*given)), due)
