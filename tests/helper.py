"""What several tests share: forms and stands to ask about, things that are none, and how a refusal is asked."""

import copy
import itertools
import random

from cutstand.cuts import right_cut, stand_at
from cutstand.errors import NoDeed, NoTaking, NoWorld


def nested(deep, kind):
    thing = kind(())
    for _ in range(deep - 1):
        thing = kind((thing,))
    return thing


# Things of every kind that anybody may hand in, none of which is right anywhere.
ODD_THINGS = [
    None, True, False, 0, 1, -1, 10 ** 19, -(10 ** 19), "", "a", "own", "form", "a b~", "()",
    (), [], (None,), [None], (True, False), (0, 0), [0, 0], ("a", "b"), ("own",), ("own", True), ("own", "a"),
    ((), ()), [(), ()], ((), []), ([], ()), ((), (), ()), (((),), ((),)), ((None,), (None,)), ((0,), (0,)),
    (((0, ()),), None), ((1, 2, 3), (4, 5, 6)), (0,) * 20000, [0] * 20000,
    nested(30, tuple), nested(30, list), (nested(29, tuple), nested(29, list)),
]

# Three machines; 0 and 1 talk by rows, 2 hears from both by heaps and sends back to 0 by a row.
TALK = (
    (
        (0, (
            (0, "own", 1, ((0, "a"), (2, "b"), (0, "c")), "go"),
            (1, "own", 0, (), None),
            (0, "d", 7, ((0, "x"),), "heard"),
            (1, "e", 1, (), "ee"),
        )),
        (5, (
            (5, "a", 6, ((1, "d"), (3, "p")), None),
            (6, "c", 5, ((1, "e"),), "see"),
            (5, "own", 5, ((3, "q"), (3, "r"), (3, "s")), "abcdefgh"),
        )),
        (99, (
            (99, "b", 98, ((4, "d"),), "bee"),
            (98, "q", 99, (), "cue"),
            (98, "own", 98, ((4, "z"),), None),
        )),
    ),
    ((0, 1, "row"), (1, 0, "row"), (0, 2, "heap"), (1, 2, "heap"), (2, 0, "row")),
)

# One machine, no road.
ALONE = (((3, ((3, "own", 4, (), "up"), (4, "z", 3, (), None))),), ())

# A stand of TALK with letters that wait on rows and heaps.
MIDST = (
    (1, 6, 98),
    ((4, ((2, "a"), (3, "c"))), (1, ()), (6, ((0, "b"), (3, "q"), (4, "b"))), (9, ((8, "q"),)), (2, ((0, "d"), (1, "z")))),
)


def refused(case, error, fields, call, *things):
    """Ask that the call is refused with just this error and these fields, and changes nothing handed in."""
    ahead = copy.deepcopy(things)
    with case.assertRaises(error) as caught:
        call(*things)
    case.assertIs(type(caught.exception), error)
    for name, value in fields.items():
        got = getattr(caught.exception, name)
        case.assertEqual((name, got, type(got)), (name, value, type(value)))
    case.assertEqual(things, ahead)


def unchanged(case, call, *things):
    """Call, ask that nothing handed in has changed, and tell the outcome."""
    ahead = copy.deepcopy(things)
    told = call(*things)
    case.assertEqual(repr(things), repr(ahead))
    return told


def put(thing, place, value):
    """A copy of nested tuples with another value at a place, told by indexes."""
    if not place:
        return value
    parts = list(thing)
    parts[place[0]] = put(parts[place[0]], place[1:], value)
    return tuple(parts)


# A run of TALK from its first stand, and all that is to be told of it.
RUN = [
    ("own", 0), ("come", 0, 0), ("come", 2, 0), ("come", 0, 1), ("own", 1), ("come", 3, 1), ("own", 0), ("come", 4, 0),
    ("hear", 2, "k"),
]
RUN_END = (
    (7, 5, 99),
    ((3, ((2, "x"),)), (2, ((0, "d"), (1, "e"))), (1, ()), (4, ((0, "p"), (2, "r"), (3, "s"))), (1, ())),
)
RUN_WORDS = [(0, "go"), (2, "bee"), (1, "see"), (1, "abcdefgh"), (2, "cue"), (0, "heard")]
RUN_EVENTS = [(0, 0), (1, 0), (2, 0), (1, 1), (1, 2), (2, 1), (0, 1), (0, 2), (2, 2)]
RUN_LETTERS = {
    (0, 0): (0, 1), (0, 1): (0, 3), (0, 2): (7, None), (1, 0): (1, None), (1, 1): (3, None), (2, 0): (0, 2),
    (3, 0): (1, None), (3, 1): (4, 5), (3, 2): (4, None), (3, 3): (4, None), (4, 0): (2, 7),
}
RUN_PASTS = [(), (0,), (0,), (0, 1), (0, 1, 3), (0, 1, 2, 3, 4), (0,), (0, 2, 6), (0, 1, 2, 3, 4, 5)]
RUN_CLOCKS = [
    (1, 0, 0), (1, 1, 0), (1, 0, 1), (1, 2, 0), (1, 3, 0), (1, 3, 2), (2, 0, 0), (3, 0, 1), (1, 3, 3),
]

# From MIDST letters come that waited there already.
MIDST_RUN = [("come", 4, 0), ("come", 2, 3), ("own", 0), ("come", 2, 0), ("come", 0, 2), ("come", 4, 1), ("own", 2)]
MIDST_CLOCKS = [(1, 0, 0), (0, 0, 1), (2, 0, 0), (0, 0, 2), (0, 1, 0), (3, 0, 0), (0, 0, 3)]


class Model:
    """A form at work, written by the words of the document alone, to hold the program against."""

    def __init__(self, form, stand):
        self.form = form
        self.states = list(stand[0])
        self.sent = [road[0] for road in stand[1]]
        self.waiting = [dict(road[1]) for road in stand[1]]

    def possible(self):
        """All plain deeds that can be done now, with some signs to hear."""
        deeds = [("hear", m, sign) for m in range(len(self.states)) for sign in "abz"]
        for m, (_, moves) in enumerate(self.form[0]):
            if any(move[:2] == (self.states[m], "own") for move in moves):
                deeds.append(("own", m))
        for road, (_, _, order) in enumerate(self.form[1]):
            rising = sorted(self.waiting[road])
            deeds.extend(("come", road, k) for k in (rising[:1] if order == "row" else rising))
        return deeds

    def do(self, deed):
        """Do a deed; tell (machine, word or None) and the letters that it sent."""
        m, cause = deed[1], deed[-1] if deed[0] == "hear" else "own"
        if deed[0] == "come":
            m, cause = self.form[1][deed[1]][1], self.waiting[deed[1]].pop(deed[2])
        found = [move for move in self.form[0][m][1] if move[:2] == (self.states[m], cause)]
        after, sends, word = found[0][2:] if found else (self.states[m], (), None)
        self.states[m] = after
        sent = []
        for road, sign in sends:
            sent.append((road, self.sent[road]))
            self.waiting[road][self.sent[road]] = sign
            self.sent[road] += 1
        return (m, word), sent

    def stand(self):
        waiting = [tuple(sorted(letters.items())) for letters in self.waiting]
        return tuple(self.states), tuple(zip(self.sent, waiting))


def some_form(chance):
    """A small form with few states and signs, so that its machines meet many of their moves."""
    machines = chance.randint(1, 4)
    roads = []
    if machines > 1:
        for _ in range(chance.randint(0, 8)):
            one, other = chance.sample(range(machines), 2)
            roads.append((one, other, chance.choice(["row", "heap"])))
    rules = []
    for m in range(machines):
        own = [n for n, road in enumerate(roads) if road[0] == m]
        moves = []
        for state in range(3):
            for cause in ("own", "a", "b"):
                if chance.random() < 0.8:
                    many = chance.randint(0, 3) if own else 0
                    sends = tuple((chance.choice(own), chance.choice("abz")) for _ in range(many))
                    moves.append((state, cause, chance.randint(0, 2), sends, chance.choice([None, "w", "word"])))
        rules.append((chance.randint(0, 2), tuple(moves)))
    return tuple(rules), tuple(roads)


def some_stand(chance, form, most=3):
    """A stand of a form with some letters that wait."""
    roads = []
    for _, _, order in form[1]:
        sent = chance.choice([0, 1, 2, 5, 10 ** 9])
        many = min(sent, chance.randint(0, most))
        numbers = range(sent - many, sent)
        if order == "heap":
            numbers = sorted(chance.sample(range(sent), many))
        roads.append((sent, tuple((k, chance.choice("abz")) for k in numbers)))
    return tuple(chance.randint(0, 3) for _ in form[0]), tuple(roads)


def some_run(chance, form, stand, many):
    """A run of so many deeds, with comings rather more often than hearings."""
    model = Model(form, stand)
    deeds = []
    for _ in range(many):
        possible = model.possible()
        likely = [deed for deed in possible if deed[0] != "hear"]
        deeds.append(chance.choice(likely if likely and chance.random() < 0.9 else possible))
        model.do(deeds[-1])
    return deeds


def some_runs(many, runs):
    """So many runs of so many deeds, each with its chance, form and stand; the same ones each time."""
    for seed in range(runs):
        chance = random.Random(seed)
        form = some_form(chance)
        stand = some_stand(chance, form)
        yield chance, form, stand, some_run(chance, form, stand, many)


def busy_runs(many, runs):
    """Likewise of forms in which each machine sends by each deed, from stands where few letters wait."""
    for seed in range(runs):
        chance = random.Random(seed)
        machines = chance.randint(2, 4)
        roads = [(m, (m + 1) % machines, "row") for m in range(machines)]
        while len(roads) < 8:
            one, other = chance.sample(range(machines), 2)
            roads.append((one, other, chance.choice(["row", "heap"])))
        rules = []
        for m in range(machines):
            own = [n for n, road in enumerate(roads) if road[0] == m]
            rules.append((0, tuple((0, cause, 0, ((chance.choice(own), "a"),), None) for cause in ("own", "a", "b"))))
        form = (tuple(rules), tuple(roads))
        stand = put(some_stand(chance, form, 1), (0,), (0,) * machines)
        yield chance, form, stand, some_run(chance, form, stand, many)


def relation(form, stand, deeds):
    """The pairs (one, other) of which one is before other: the direct ones, closed step by step."""
    model, senders, machines, pairs = Model(form, stand), {}, [], set()
    for number, deed in enumerate(deeds):
        if deed[0] == "come" and deed[1:] in senders:
            pairs.add((senders[deed[1:]], number))
        (m, _), sent = model.do(deed)
        pairs.update((ahead, number) for ahead in range(number) if machines[ahead] == m)
        machines.append(m)
        senders.update((letter, number) for letter in sent)
    for middle in range(len(deeds)):
        into = [one for one, other in pairs if other == middle]
        out = [other for one, other in pairs if one == middle]
        pairs.update((one, other) for one in into for other in out)
    return pairs


def crowded():
    """A form with a stand at its bounds, and a run of two hundred deeds from it."""
    roads = tuple((n % 4, (n + 1) % 4, "heap" if n < 4 else "row") for n in range(8))
    rules = []
    for m in range(4):
        sends = ((m, "a"), (m + 4, "b"), (m, "c"))
        rules.append((0, tuple((0, cause, 0, sends, "word") for cause in ("own", "a", "b", "c"))))
    form = (tuple(rules), roads)
    low, high = tuple((k, "a") for k in range(0, 234, 2)), tuple((k, "b") for k in range(10 ** 9 - 117, 10 ** 9))
    stand = ((0,) * 4, tuple((10 ** 9, low if n < 4 else high) for n in range(8)))
    deeds = []
    for n in range(50):
        deeds += [("own", n % 4), ("come", n % 4, 2 * n), ("come", 4 + n % 4, 10 ** 9 - 117 + n // 4)]
        deeds.append(("come", n % 4, 10 ** 9 + 2 * (n // 4)))
    return form, stand, deeds


def journeys(form, stand, deeds):
    """For each letter [sender, sent, taker, came] and the numbers of the deeds that sent it and let it come."""
    model, counts = Model(form, stand), [0] * len(form[0])
    found = {}
    for road, (_, waiting) in enumerate(stand[1]):
        found.update(((road, k), [form[1][road][0], None, form[1][road][1], None, None, None]) for k, _ in waiting)
    for number, deed in enumerate(deeds):
        if deed[0] == "come":
            found[deed[1:]][3] = counts[form[1][deed[1]][1]]
            found[deed[1:]][5] = number
        (m, _), sent = model.do(deed)
        found.update(((road, k), [m, counts[m], form[1][road][1], None, number, None]) for road, k in sent)
        counts[m] += 1
    return found


def in_rows(form):
    """The same form with rows alone."""
    return form[0], tuple((one, other, "row") for one, other, _ in form[1])


def ends(form, deeds):
    """How many events each machine has by these deeds."""
    machines = [form[1][deed[1]][1] if deed[0] == "come" else deed[1] for deed in deeds]
    return [machines.count(m) for m in range(len(form[0]))]


class AtWork:
    """A taking at work, written by the words of the document alone: what both sorts of them share."""

    def __init__(self, form, base):
        self.form, self.base, self.model = form, base, Model(form, base)
        self.deeds, self.seen = [], [None] * len(form[0])

    def taking(self):
        return self.base, tuple(self.deeds), tuple(self.seen)

    def refusal(self, deed):
        """The error and its fields that are due of a deed of the right shape, None where it can be done."""
        if deed[0] == "begin":
            return None if self.seen[deed[1]] is None else (NoTaking, {"word": "seen", "number": deed[1]})
        if deed[0] != "hear" and deed not in self.model.possible():
            return NoDeed, {"number": 0}
        return None

    def do(self, deed):
        """Do a deed that can be done; tell the letters that a plain one sent."""
        if deed[0] == "begin":
            self.seen[deed[1]] = ends(self.form, self.deeds)[deed[1]]
            return []
        self.deeds.append(deed)
        return self.model.do(deed)[1]

    def deeds_to_try(self):
        tried = self.model.possible() + [("begin", m) for m in range(len(self.form[0]))]
        tried += [("own", m) for m in range(len(self.form[0]))]
        return tried + [("come", road, self.model.sent[road] - 1) for road in range(len(self.form[1]))]

    def behind(self, deed):
        """Another one, that stands where this one does behind a deed."""
        other = copy.deepcopy(self)
        other.do(deed)
        return other

    def walk(self, chance, many):
        """Do so many deeds, plain ones and marks rather than others."""
        for _ in range(many):
            tried = [deed for deed in self.deeds_to_try() if self.refusal(deed) is None]
            marks = [deed for deed in tried if deed[0] == "mark"]
            plain = [deed for deed in tried if deed[0] in ("own", "come")]
            self.do(chance.choice(chance.choice([marks, plain, plain, plain, tried]) or plain or tried))
        return self

    def all_reached(self, most):
        """All takings with at most so many plain deeds to which deeds lead, but for hearings."""
        reached, ahead = {}, [self]
        while ahead:
            at_work = ahead.pop()
            if at_work.taking() not in reached:
                reached[at_work.taking()] = True
                for deed in at_work.deeds_to_try():
                    if deed[0] in ("begin", "mark") or deed[0] != "hear" and len(at_work.deeds) < most:
                        if at_work.refusal(deed) is None:
                            ahead.append(at_work.behind(deed))
        return reached


class AskTakings:
    """What is asked of takings of both sorts; a case has its functions as first, done, right, way, taken."""

    def leads(self, form, taking, deed, to):
        told = unchanged(self, self.done, form, taking, deed)
        self.assertEqual(repr(told), repr(to))
        self.assertIs(self.right(form, told), True)
        return told

    def no(self, error, form, taking, deed, **fields):
        refused(self, error, fields, self.done, form, taking, deed)

    def is_due(self, due, form, thing):
        """Ask that a thing is refused with the (word, number) that is due, let by where none is."""
        if due is None:
            self.assertIs(unchanged(self, self.right, form, thing), True)
        else:
            refused(self, NoTaking, {"word": due[0], "number": due[1]}, self.right, form, thing)

    def each_deed_leads_on(self, at_work):
        form, taking = at_work.form, at_work.taking()
        self.is_due(None, form, taking)
        for deed in at_work.deeds_to_try():
            due = at_work.refusal(deed)
            if due is None:
                self.leads(form, taking, deed, at_work.behind(deed).taking())
            else:
                refused(self, due[0], due[1], self.done, form, taking, deed)

    def is_led_to(self, at_first, taking):
        """Ask that the told way leads to the taking from the first one of its base."""
        form = at_first.form
        way = unchanged(self, self.way, form, taking)
        self.assertIs(type(way), list)
        told = self.first(form, taking[0])
        for deed in way:
            self.assertIsNone(at_first.refusal(deed))
            at_first.do(deed)
            told = self.done(form, told, deed)
        self.assertEqual(repr(at_first.taking()), repr(taking))
        self.assertEqual(told, taking)

    def is_taken(self, at_work):
        """Ask what is told of the taking, that is, the cut of seen and its stand where it is finished."""
        told = unchanged(self, self.taken, at_work.form, at_work.taking())
        if not at_work.is_finished():
            self.assertIsNone(told)
            return
        base, deeds, seen = at_work.taking()[:3]
        self.assertEqual((type(told), len(told), told[0]), (tuple, 2, seen))
        self.assertIs(right_cut(at_work.form, base, deeds, seen), True)
        self.assertEqual(told[1], stand_at(at_work.form, base, deeds, seen))


def some_choices(chance, form, deeds):
    """Choices of a run, few or many."""
    often = chance.choice([0.2, 0.5, 0.8, 1])
    return tuple((0,) + tuple(p for p in range(1, end + 1) if chance.random() < often) for end in ends(form, deeds))


def all_lines(form, base, deeds, choices):
    """All rows of choices in which no letter came that was not sent."""
    letters = journeys(form, base, deeds).values()
    found = []
    for row in itertools.product(*choices):
        if not any(came is not None and came < row[taker] and sent is not None and sent >= row[sender]
                   for sender, sent, taker, came, _, _ in letters):
            found.append(row)
    return found


def way_goes(letters, choices, way):
    """How many letters of a way stand where they may, by the words of the document."""
    for number, letter in enumerate(way):
        sender, sent, taker, came = letters.get(letter, [None] * 4)[:4]
        if sent is None or came is None:
            return number
        if number == 0:
            bound = max(choices[sender])
        else:
            if sender != there[0]:
                return number
            bound = max(choice for choice in choices[sender] if choice <= there[1])
        if sent < bound:
            return number
        there = (taker, came)
    return len(way)


# Two machines that send one another a letter by each coming and by themselves, and tell nothing.
PING = (
    ((0, ((0, "own", 0, ((0, "a"),), None), (0, "a", 0, ((0, "a"),), None))),
     (0, ((0, "own", 0, ((1, "a"),), None), (0, "a", 0, ((1, "a"),), None)))),
    ((0, 1, "row"), (1, 0, "heap")),
)


def ping_run(many):
    """A run of PING in which one letter goes to and fro: each coming sends the next letter."""
    return [("own", 0)] + [("come", n % 2, n // 2) for n in range(many - 1)]


class AtWorld:
    """A world at work, written by the words of the document alone."""

    def __init__(self, form, base):
        self.form, self.base = form, base
        self.deeds, self.told = [], []
        self.kept = [[0] for _ in form[0]]
        self.noted = [[] for _ in form[0]]

    def world(self):
        kept, noted = (tuple(tuple(sorted(own)) for own in part) for part in (self.kept, self.noted))
        return self.base, tuple(self.deeds), kept, noted, tuple(self.told)

    def at(self, world):
        """Another one, that stands at this world."""
        other = AtWorld(self.form, world[0])
        other.deeds, other.told = list(world[1]), list(world[4])
        other.kept, other.noted = [list(own) for own in world[2]], [list(own) for own in world[3]]
        return other

    def ends(self):
        return ends(self.form, self.deeds)

    def model(self):
        model = Model(self.form, self.base)
        for deed in self.deeds:
            model.do(deed)
        return model

    def words(self):
        """Each event, in the deeds' order, with its word or None."""
        model, counts, found = Model(self.form, self.base), [0] * len(self.form[0]), {}
        for deed in self.deeds:
            (m, word), _ = model.do(deed)
            found[(m, counts[m])] = word
            counts[m] += 1
        return found

    def choices(self, fallen):
        found = []
        for m, end in enumerate(self.ends()):
            own = [p for p in range(end + 1) if any(
                q <= p and all(e in self.noted[m] for e in range(q, p)) for q in self.kept[m])]
            found.append(tuple(own if m in fallen or end in own else own + [end]))
        return tuple(found)

    def line(self, fallen):
        """The latest line when these fall, of all rows of choices."""
        return tuple(map(max, zip(*all_lines(self.form, self.base, self.deeds, self.choices(fallen)))))

    def all_fall(self):
        return self.line(range(len(self.form[0])))

    def told_fault(self):
        """The fields (machine, word) that are due of what is told, None where all is right."""
        words, events, line = self.words(), list(self.words()), self.all_fall()
        pairs = relation(self.form, self.base, self.deeds)
        for place, event in enumerate(self.told):
            if event not in words:
                return -1, "told"
            ahead = self.told[:place]
            if event in ahead:
                return event[0], "twice"
            if words[event] is None:
                return event[0], "word"
            if event[1] >= line[event[0]]:
                return event[0], "line"
            for one, other in pairs:
                if events[other] == event and words[events[one]] is not None and events[one] not in ahead:
                    return event[0], "before"
        return None

    def may_throw(self, cut):
        if any(position not in own for position, own in zip(cut, self.kept)):
            return False
        if cut not in all_lines(self.form, self.base, self.deeds, [(position,) for position in cut]):
            return False
        return all(word is None or event[1] >= cut[event[0]] or event in self.told for event, word in self.words().items())

    def refusal(self, deed):
        """The error and its fields that are due of a deed of the right shape (of fall, a right one), or None."""
        if deed[0] == "tell":
            other = self.at(self.world())
            other.told.append(deed[1:])
            fault = other.told_fault()
            return fault and (NoWorld, {"machine": fault[0], "word": fault[1]})
        if deed[0] == "keep":
            fits = deed[1] < len(self.form[0]) and self.ends()[deed[1]] not in self.kept[deed[1]]
        elif deed[0] == "note":
            fits = deed[1] < len(self.form[0]) and deed[2] in range(self.ends()[deed[1]]) and deed[2] not in self.noted[deed[1]]
        elif deed[0] == "throw":
            fits = self.may_throw(deed[1])
        else:
            fits = deed[0] in ("fall", "hear") or deed in self.model().possible()
        return None if fits else (NoDeed, {"number": 0})

    def do(self, deed):
        """Do a deed that can be done; tell what a tell tells."""
        if deed[0] == "keep":
            self.kept[deed[1]].append(self.ends()[deed[1]])
        elif deed[0] == "note":
            self.noted[deed[1]].append(deed[2])
        elif deed[0] == "tell":
            self.told.append(deed[1:])
            return deed[1], self.words()[deed[1:]]
        elif deed[0] == "fall":
            self.go_back(deed[2])
        elif deed[0] == "throw":
            self.throw(deed[1])
        else:
            self.deeds.append(deed)
        return None

    def go_back(self, cut):
        events = list(self.words())
        self.deeds = [deed for deed, (m, e) in zip(self.deeds, events) if e < cut[m]]
        self.kept = [[p for p in own if p <= cut[m]] for m, own in enumerate(self.kept)]
        self.noted = [[e for e in own if e < cut[m]] for m, own in enumerate(self.noted)]
        self.told = [(m, e) for m, e in self.told if e < cut[m]]

    def throw(self, cut):
        events, model = list(self.words()), Model(self.form, self.base)
        for deed, (m, e) in zip(self.deeds, events):
            if e < cut[m]:
                model.do(deed)
        self.base = model.stand()
        self.deeds = [deed for deed, (m, e) in zip(self.deeds, events) if e >= cut[m]]
        self.kept = [[p - cut[m] for p in own if p >= cut[m]] for m, own in enumerate(self.kept)]
        self.noted = [[e - cut[m] for e in own if e >= cut[m]] for m, own in enumerate(self.noted)]
        self.told = [(m, e - cut[m]) for m, e in self.told if e >= cut[m]]

    def cuts(self):
        """All cuts that may be thrown to."""
        return [cut for cut in itertools.product(*self.kept) if self.may_throw(cut)]

    def groups(self):
        """All rising tuples of one or more machines."""
        machines = range(len(self.form[0]))
        return [group for many in machines for group in itertools.combinations(machines, many + 1)]

    def deeds_to_try(self, chance):
        """Deeds of each kind but fall, such as can be done and such as can't."""
        machines = range(len(self.form[0]) + 1)
        tried = self.model().possible() + [("own", m) for m in machines[:-1]] + [("keep", m) for m in machines]
        for m, end in enumerate(self.ends() + [0]):
            tried += [("note", m, e) for e in range(end + 1)] + [("tell", m, e) for e in range(end + 1)]
        tried += [("come", road, chance.randint(0, 3)) for road in range(len(self.form[1]))]
        tried += [("throw", cut) for cut in self.cuts()]
        return tried + [("throw", tuple(chance.choice(own + [end]) for own, end in zip(self.kept, self.ends())))]

    def may(self, chance, kind):
        """Some deed of a kind that can be done, of a fall without its line and ways, None where there is none."""
        if kind == "fall":
            return ("fall", chance.choice(self.groups()))
        tried = [deed for deed in self.deeds_to_try(chance) if deed[0] in kind]
        if kind == ("throw",):
            tried = [deed for deed in tried if any(deed[1])]
        tried = [deed for deed in chance.sample(tried, len(tried)) if self.refusal(deed) is None]
        return tried[0] if tried else None


PLAIN, KEEPING = ("own", "come", "hear"), ("keep", "note")


def first_worlds(many):
    """So many worlds at work that are first ones, each with its chance; every second one of a form that tells much."""
    for seed in range(many):
        chance = random.Random(seed)
        form = some_form(chance)
        if seed % 2:
            form = talkative(form)
        yield chance, AtWorld(form, some_stand(chance, form, 1))


def walk(chance, at_work, many, fall_of, most=12):
    """So many deeds of a world, one by one; each is yielded ahead of its doing. The falls are made by fall_of."""
    kinds = [PLAIN, PLAIN, PLAIN, KEEPING, KEEPING, KEEPING, ("tell",), ("tell",), "fall", ("throw",)]
    for _ in range(many):
        kind = chance.choice(kinds)
        if len(at_work.deeds) >= most and kind == PLAIN:
            kind = "fall"
        deed = at_work.may(chance, kind)
        if deed is not None and kind == "fall":
            deed = fall_of(at_work.form, at_work.world(), deed[1])
        if deed is not None:
            yield deed
            at_work.do(deed)


def world_walks(many, walks, fall_of, most=12):
    """The steps of so many walks: each yields the chance, the world at work and the deed that is done there next."""
    for chance, at_work in first_worlds(walks):
        for deed in walk(chance, at_work, many, fall_of, most):
            yield chance, at_work, deed


def right_worlds(many, worlds):
    """So many right worlds at work, of runs of so many deeds with much sent, kept and noted, and some of it told."""
    for chance, form, base, deeds in busy_runs(many, worlds):
        at_work = AtWorld(talkative(form), base)
        at_work.deeds = deeds
        at_work.kept = [list(own) for own in some_choices(chance, form, deeds)]
        at_work.noted = [[e for e in range(end) if chance.random() < 0.3] for end in ends(form, deeds)]
        for _ in range(chance.randint(0, 6)):
            deed = at_work.may(chance, ("tell",))
            if deed is not None:
                at_work.do(deed)
        yield chance, at_work


def talkative(form):
    """The same form with a word of its own for each move."""
    letters = iter("abcdefghijklmnopqrstuvwxyz" * 5)
    rules = [(start, tuple(move[:4] + (next(letters) + "w",) for move in moves)) for start, moves in form[0]]
    return tuple(rules), form[1]
