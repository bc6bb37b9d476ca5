import itertools
import random
import time
import unittest

from cutstand.errors import NoDeed, NoTaking
from cutstand.marks import marks_done, marks_first, marks_taken, marks_way, right_marks
from cutstand.stands import first
from helper import (ALONE, MIDST, ODD_THINGS, TALK, AskTakings, AtWork, Model, crowded, ends, in_rows, journeys, put,
                    some_form, some_stand, unchanged)

# Two machines, each of which sends the other a letter by itself.
PAIR = (
    ((0, ((0, "own", 0, ((0, "a"),), None),)), (0, ((0, "own", 0, ((1, "b"),), "w"),))),
    ((0, 1, "row"), (1, 0, "row")),
)
BASE = ((0, 0), ((7, ((5, "x"), (6, "y"))), (0, ())))

# A ring of three machines, with a second road from 0 to 1.
RING = (
    tuple((0, ((0, "own", 0, sends, None),)) for sends in (((0, "a"), (3, "d")), ((1, "b"),), ((2, "c"),))),
    ((0, 1, "row"), (1, 2, "row"), (2, 0, "row"), (0, 1, "row")),
)

# Takings of PAIR from BASE: 0 is taken down behind one sending; its mark takes down 1, ahead of a letter behind it.
ONE = (BASE, (("own", 0),), (1, None), ((8, False), None))
FINISHED = (
    BASE,
    (("own", 0), ("own", 1), ("come", 0, 5), ("come", 0, 6), ("own", 0), ("come", 0, 7), ("come", 0, 8), ("come", 1, 0)),
    (1, 4), ((8, True), (1, True)),
)


class Marked(AtWork):
    """A taking by marks at work."""

    def __init__(self, form, base):
        AtWork.__init__(self, form, base)
        self.marks = [None] * len(form[1])

    def taking(self):
        return AtWork.taking(self) + (tuple(self.marks),)

    def refusal(self, deed):
        if deed[0] == "mark":
            mark = self.marks[deed[1]]
            if mark is None or mark[1] or any(k < mark[0] for k in self.model.waiting[deed[1]]):
                return NoTaking, {"word": "mark", "number": deed[1]}
            return None
        due = AtWork.refusal(self, deed)
        if due is None and deed[0] == "come" and self.marks[deed[1]] is not None:
            k, came = self.marks[deed[1]]
            if not came and deed[2] >= k:
                return NoTaking, {"word": "ahead", "number": deed[1]}
        return due

    def do(self, deed):
        if deed[0] == "mark":
            self.marks[deed[1]] = (self.marks[deed[1]][0], True)
            if self.seen[self.form[1][deed[1]][1]] is None:
                self.do(("begin", self.form[1][deed[1]][1]))
            return
        AtWork.do(self, deed)
        if deed[0] == "begin":
            for road, (one, _, _) in enumerate(self.form[1]):
                if one == deed[1]:
                    self.marks[road] = (self.model.sent[road], False)

    def deeds_to_try(self):
        return AtWork.deeds_to_try(self) + [("mark", road) for road in range(len(self.form[1]))]

    def is_finished(self):
        return None not in self.seen and all(came for _, came in self.marks)

    def finish(self):
        """Take all down, let all letters ahead of marks come, and then the marks."""
        for m in range(len(self.seen)):
            if self.seen[m] is None:
                self.do(("begin", m))
        for road in range(len(self.marks)):
            while not self.marks[road][1]:
                ahead = [k for k in sorted(self.model.waiting[road]) if k < self.marks[road][0]]
                self.do(("come", road, ahead[0]) if ahead else ("mark", road))


def fault(form, taking):
    """The (word, number) that is due of a taking of the right shape, None of a right one."""
    base, deeds, seen, marks = taking
    for road, (_, _, order) in enumerate(form[1]):
        if order == "heap":
            return "heap", road
    model = Model(form, base)
    for number, deed in enumerate(deeds):
        if deed[0] != "hear" and deed not in model.possible():
            return "deed", number
        model.do(deed)
    for m, end in enumerate(ends(form, deeds)):
        if seen[m] is not None and seen[m] not in range(end + 1):
            return "seen", m
    letters = journeys(form, base, deeds)
    for road, (one, _, _) in enumerate(form[1]):
        if (marks[road] is None) != (seen[one] is None):
            return "sent", road
        if marks[road] is not None:
            there, counts = Model(form, base), [0] * len(form[0])
            for deed in deeds:
                m = form[1][deed[1]][1] if deed[0] == "come" else deed[1]
                counts[m] += 1
                if m == one and counts[m] > seen[one]:
                    break
                there.do(deed)
            if there.sent[road] != marks[road][0]:
                return "sent", road
    for road in range(len(form[1])):
        if marks[road] is not None and not marks[road][1]:
            if any(deed[:2] == ("come", road) and deed[2] >= marks[road][0] for deed in deeds):
                return "ahead", road
    for road, (_, other, _) in enumerate(form[1]):
        if marks[road] is not None and marks[road][1]:
            early = [k for (on, k), trip in letters.items() if on == road and trip[3] is not None and
                     seen[other] is not None and trip[3] < seen[other]]
            if seen[other] is None or any(k < marks[road][0] for k in model.waiting[road]):
                return "behind", road
            if any(k >= marks[road][0] for k in early):
                return "behind", road
    return None


class ByMarks(AskTakings):
    first, done, right = staticmethod(marks_first), staticmethod(marks_done), staticmethod(right_marks)
    way, taken = staticmethod(marks_way), staticmethod(marks_taken)


class Done(ByMarks, unittest.TestCase):

    def test_first(self):
        self.assertEqual(unchanged(self, marks_first, PAIR, BASE), (BASE, (), (None, None), (None, None)))
        self.assertEqual(marks_first(ALONE, first(ALONE)), (first(ALONE), (), (None,), ()))
        self.assertEqual(marks_first(RING, first(RING)), (first(RING), (), (None,) * 3, (None,) * 4))

    def test_step_by_step(self):
        taking = self.leads(PAIR, marks_first(PAIR, BASE), ("own", 0), (BASE, (("own", 0),), (None, None), (None, None)))
        taking = self.leads(PAIR, taking, ("begin", 0), ONE)
        deeds = (("own", 0), ("own", 1), ("come", 0, 5), ("come", 0, 6), ("own", 0), ("come", 0, 7))
        for many in range(2, 7):
            taking = self.leads(PAIR, taking, deeds[many - 1], (BASE, deeds[:many], (1, None), ((8, False), None)))
        taking = self.leads(PAIR, taking, ("mark", 0), (BASE, deeds, (1, 4), ((8, True), (1, False))))
        taking = self.leads(PAIR, taking, ("come", 0, 8), (BASE, deeds + (("come", 0, 8),), (1, 4), ((8, True), (1, False))))
        self.no(NoTaking, PAIR, taking, ("mark", 1), word="mark", number=1)
        taking = self.leads(PAIR, taking, ("come", 1, 0), put(FINISHED, (3, 1, 1), False))
        self.leads(PAIR, taking, ("mark", 1), FINISHED)

    def test_begin_marks_all_roads_of_the_machine(self):
        taking = marks_done(RING, marks_first(RING, first(RING)), ("own", 0))
        self.leads(RING, taking, ("begin", 0), (first(RING), (("own", 0),), (1, None, None), ((1, False), None, None, (1, False))))
        self.leads(RING, taking, ("begin", 1), (first(RING), (("own", 0),), (None, 0, None), (None, (0, False), None, None)))

    def test_a_mark_takes_down_once(self):
        taking = marks_first(RING, first(RING))
        for deed in [("begin", 0), ("mark", 0), ("own", 1)]:
            taking = marks_done(RING, taking, deed)
        self.leads(RING, taking, ("mark", 3), (first(RING), (("own", 1),), (0, 0, None), ((0, True), (0, False), None, (0, True))))

    def test_one_machine(self):
        taking = self.leads(ALONE, marks_first(ALONE, first(ALONE)), ("begin", 0), (first(ALONE), (), (0,), ()))
        self.leads(ALONE, taking, ("own", 0), (first(ALONE), (("own", 0),), (0,), ()))

    def test_things_that_are_no_deeds(self):
        odd = [("begin",), ("begin", 2), ("begin", -1), ("begin", True), ("begin", False), ("begin", None), ("begin", "0"),
               ("begin", 0, 0), ["begin", 0], ("mark",), ("mark", 2), ("mark", -1), ("mark", False), ("mark", True),
               ("mark", None), ("mark", 0, 5), ["mark", 0], ("keep", 0), ("tell", 0, 0), ("own", 2), ("own", True),
               ("hear", 0, "A"), ("hear", 0, "ab"), ("hear", 2, "a"), ("come", 2, 0), ("come", False, 5), ("come", 0, "5"),
               ["own", 0], ("begin", (0,)), (("begin", 0),)]
        for taking in (marks_first(PAIR, BASE), ONE, FINISHED):
            for thing in ODD_THINGS + odd:
                self.no(NoDeed, PAIR, taking, thing, number=0)

    def test_plain_deeds_that_cannot_be_done(self):
        self.no(NoDeed, PAIR, ONE, ("come", 0, 6), number=0)
        self.no(NoDeed, PAIR, ONE, ("come", 0, 4), number=0)
        self.no(NoDeed, PAIR, ONE, ("come", 1, 0), number=0)
        self.no(NoDeed, ALONE, marks_done(ALONE, marks_first(ALONE, first(ALONE)), ("own", 0)), ("own", 0), number=0)

    def test_letters_behind_a_mark(self):
        # The mark stands behind letter 7; letter 8 is behind it, and only when it is its turn the mark is in its way.
        taking = marks_done(PAIR, ONE, ("own", 0))
        self.no(NoDeed, PAIR, taking, ("come", 0, 8), number=0)
        for k in (5, 6, 7):
            self.no(NoTaking, PAIR, taking, ("mark", 0), word="mark", number=0)
            taking = marks_done(PAIR, taking, ("come", 0, k))
        self.no(NoTaking, PAIR, taking, ("come", 0, 8), word="ahead", number=0)
        self.no(NoDeed, PAIR, taking, ("come", 0, 9), number=0)
        taking = marks_done(PAIR, taking, ("mark", 0))
        self.assertEqual(marks_done(PAIR, taking, ("come", 0, 8))[1][-1], ("come", 0, 8))

    def test_begin_twice_and_marks_that_are_not_there(self):
        taking = marks_first(PAIR, BASE)
        self.no(NoTaking, PAIR, taking, ("mark", 0), word="mark", number=0)
        self.no(NoTaking, PAIR, taking, ("mark", 1), word="mark", number=1)
        self.no(NoTaking, PAIR, ONE, ("begin", 0), word="seen", number=0)
        self.no(NoTaking, PAIR, ONE, ("mark", 1), word="mark", number=1)
        self.no(NoTaking, PAIR, FINISHED, ("begin", 1), word="seen", number=1)
        self.no(NoTaking, PAIR, FINISHED, ("mark", 0), word="mark", number=0)
        self.no(NoTaking, PAIR, FINISHED, ("mark", 1), word="mark", number=1)


class Right(ByMarks, unittest.TestCase):

    def wrong(self, word, number, thing, form=PAIR):
        self.is_due((word, number), form, thing)

    def test_right_ones(self):
        for taking in (marks_first(PAIR, BASE), ONE):
            self.assertIs(unchanged(self, right_marks, PAIR, taking), True)
        self.assertIs(right_marks(ALONE, (first(ALONE), (), (None,), ())), True)
        self.assertIs(right_marks(ALONE, (first(ALONE), (("own", 0),), (1,), ())), True)

    def test_shape(self):
        odd = [ONE[:3], ONE + ((),), list(ONE), (ONE,), put(ONE, (0,), None), put(ONE, (0, 0), (0,)),
               put(ONE, (0, 0, 0), True), put(ONE, (0, 1, 0, 0), 8), put(ONE, (0,), list(BASE)), put(ONE, (1,), [("own", 0)]),
               put(ONE, (1,), None), put(ONE, (2,), (1,)), put(ONE, (2,), (1, None, None)), put(ONE, (2,), [1, None]),
               put(ONE, (2, 0), True), put(ONE, (2, 1), False), put(ONE, (2, 0), "1"), put(ONE, (2, 0), (1,)),
               put(ONE, (3,), ((8, False),)), put(ONE, (3,), ((8, False), None, None)), put(ONE, (3,), [(8, False), None]),
               put(ONE, (3, 0), [8, False]), put(ONE, (3, 0), (8,)), put(ONE, (3, 0), (8, False, 0)), put(ONE, (3, 0), 8),
               put(ONE, (3, 0), (8, 0)), put(ONE, (3, 0), (8, 1)), put(ONE, (3, 0), (8, None)), put(ONE, (3, 0), (True, False)),
               put(ONE, (3, 0), (None, False)), put(ONE, (3, 0), ("8", False)), put(ONE, (3, 1), False), put(ONE, (3, 1), ())]
        for thing in ODD_THINGS + odd:
            self.wrong("shape", 0, thing)

    def test_heap(self):
        form = (PAIR[0], ((0, 1, "row"), (1, 0, "heap")))
        self.wrong("heap", 1, ONE, form)
        self.wrong("heap", 1, put(ONE, (1, 0), None), form)
        self.wrong("shape", 0, put(ONE, (2, 0), True), form)
        self.wrong("heap", 0, ONE, (PAIR[0], ((0, 1, "heap"), (1, 0, "heap"))))
        self.wrong("heap", 2, (MIDST, (), (None,) * 3, (None,) * 5), TALK)

    def test_deed(self):
        for thing in ODD_THINGS + [("own", 2), ("hear", 0, 0), ("come", 0, 6), ("come", 1, 0), ("begin", 0), ("mark", 0),
                                   ["own", 0], ("own", False)]:
            self.wrong("deed", 0, put(ONE, (1,), (thing,)))
            self.wrong("deed", 2, put(ONE, (1,), (("own", 0), ("hear", 1, "k"), thing, thing)))

    def test_seen(self):
        for position in (-1, 2, 10 ** 19, -(10 ** 19)):
            self.wrong("seen", 0, put(ONE, (2, 0), position))
            self.wrong("seen", 1, put(ONE, (2, 1), position))
        self.wrong("seen", 1, put(ONE, (2, 1), 1))

    def test_sent(self):
        for mark in [None, (7, False), (9, False), (-1, False), (10 ** 19, False), (7, True), (9, True)]:
            self.wrong("sent", 0, put(ONE, (3, 0), mark))
        for mark in [(0, False), (0, True), (8, False)]:
            self.wrong("sent", 1, put(ONE, (3, 1), mark))
        self.wrong("sent", 0, put(ONE, (2, 0), 0))
        self.wrong("sent", 0, put(ONE, (2, 0), None))
        self.wrong("sent", 1, put(ONE, (2, 1), 0))
        self.wrong("sent", 0, put(FINISHED, (3, 0, 0), 9))
        self.assertIs(right_marks(PAIR, put(put(ONE, (2, 0), 0), (3, 0), (7, False))), True)

    def test_ahead(self):
        deeds = (("own", 0), ("own", 0), ("come", 0, 5), ("come", 0, 6), ("come", 0, 7), ("come", 0, 8))
        self.assertIs(right_marks(PAIR, (BASE, deeds[:5], (1, None), ((8, False), None))), True)
        self.assertIs(right_marks(PAIR, (BASE, deeds[:4], (0, None), ((7, False), None))), True)
        self.wrong("ahead", 0, (BASE, deeds, (1, None), ((8, False), None)))
        self.wrong("ahead", 0, (BASE, deeds, (1, 0), ((8, False), (0, False))))
        self.wrong("ahead", 0, (BASE, deeds, (1, 4), ((8, False), (0, True))))
        self.wrong("ahead", 0, (BASE, deeds[:5], (0, None), ((7, False), None)))

    def test_behind(self):
        deeds = (("own", 0), ("own", 0), ("come", 0, 5), ("come", 0, 6), ("come", 0, 7), ("come", 0, 8), ("own", 1))
        for position in range(4):
            self.assertIs(right_marks(PAIR, (BASE, deeds, (1, position), ((8, True), (0, False)))), True)
        self.wrong("behind", 0, (BASE, deeds, (1, 4), ((8, True), (0, False))))
        self.wrong("behind", 0, (BASE, deeds, (1, 5), ((8, True), (1, False))))
        self.wrong("behind", 0, (BASE, deeds, (1, None), ((8, True), None)))
        self.wrong("behind", 0, (BASE, deeds[:4], (1, 0), ((8, True), (0, True))))
        self.wrong("behind", 0, (BASE, deeds[:4], (1, None), ((8, True), None)))
        self.wrong("behind", 1, (BASE, deeds[:3] + (("own", 1),), (1, 2), ((8, False), (1, True))))
        self.wrong("behind", 1, put(FINISHED, (1,), FINISHED[1][:-1]))
        self.assertIs(right_marks(PAIR, FINISHED), True)

    def test_where_several_are_due_the_first_goes(self):
        bad_deed = (("own", 0), ("come", 0, 6))
        self.wrong("shape", 0, (BASE, bad_deed, (9, True), (None, None)))
        self.wrong("shape", 0, (BASE, bad_deed, (9, 9), (None, 0)))
        self.wrong("deed", 1, (BASE, bad_deed, (9, 9), ((3, True), None)))
        self.wrong("seen", 0, (BASE, (("own", 0),), (-1, -1), ((3, True), None)))
        self.wrong("seen", 1, (BASE, (("own", 0),), (None, -1), ((3, True), None)))
        self.wrong("sent", 0, (BASE, (("own", 0), ("own", 1)), (None, 0), ((3, True), None)))
        self.wrong("sent", 1, (BASE, (("own", 0), ("own", 1)), (0, 0), ((7, True), None)))
        come = tuple(("come", 0, k) for k in (5, 6, 7))
        # Road 0 has a letter behind a mark that came; road 1 has one ahead of a mark on it: that is told ahead.
        both = (BASE, (("own", 0), ("own", 1)) + come + (("come", 1, 0),), (0, 4), ((7, True), (1, False)))
        self.wrong("behind", 0, both)
        self.wrong("ahead", 1, put(put(both, (2, 1), 0), (3, 1), (0, False)))
        self.wrong("ahead", 0, put(both, (3, 0, 1), False))
        late = (BASE, (("own", 1), ("own", 0)) + come + (("come", 1, 0),), (0, 0), ((7, True), (0, False)))
        self.wrong("ahead", 1, late)
        self.wrong("behind", 1, put(put(late, (2, 0), 2), (3,), ((8, True), (0, True))))
        self.wrong("behind", 0, put(put(late, (2, 1), None), (3, 1), None))

    def test_all_short_takings(self):
        # Just those are right to which deeds lead.
        for form, base, most in [(PAIR, ((0, 0), ((1, ((0, "x"),)), (0, ()))), 2), (PAIR, first(PAIR), 3)]:
            reached = Marked(form, base).all_reached(most)
            met = 0
            for deeds in sorted(set(deeds for _, deeds, _, _ in reached)):
                for taking in all_about(form, base, deeds):
                    due = fault(form, taking)
                    self.assertEqual(due is None, taking in reached)
                    self.is_due(due, form, taking)
                    met += due is None
            self.assertEqual(met, len(reached))

    def test_some_takings_somewhat_changed(self):
        words = {}
        for seed in range(1500):
            chance = random.Random(seed)
            form = in_rows(some_form(chance))
            base = some_stand(chance, form)
            base, deeds, seen, marks = Marked(form, base).walk(chance, chance.randint(0, 30)).taking()
            deeds, seen, marks = list(deeds), list(seen), list(marks)
            for _ in range(chance.randint(1, 2)):
                change(chance, form, deeds, seen, marks)
            taking = (base, tuple(deeds), tuple(seen), tuple(marks))
            due = fault(form, taking)
            words[due and due[0]] = True
            self.is_due(due, form, taking)
        self.assertEqual(set(words), {None, "deed", "seen", "sent", "ahead", "behind"})


def change(chance, form, deeds, seen, marks):
    """Change something of a taking's parts."""
    what = chance.randrange(5)
    if what == 0 and deeds:
        deeds.pop(chance.choice([0, -1]))
    elif what == 1:
        seen[chance.randrange(len(seen))] = chance.choice([None, 0, 1, 2, 3, -1])
    elif marks:
        road = chance.randrange(len(marks))
        if marks[road] is None:
            marks[road] = (chance.randrange(3), chance.random() < 0.5)
        elif what == 2:
            marks[road] = (marks[road][0] + chance.choice([-1, 1]), marks[road][1])
        else:
            marks[road] = (marks[road][0], not marks[road][1])


def all_about(form, base, deeds):
    """All takings of these deeds whose positions and marks are not far off."""
    model = Model(form, base)
    for deed in deeds:
        model.do(deed)
    seen = [[None] + list(range(-1, end + 2)) for end in ends(form, deeds)]
    marks = [[None] + [(k, came) for k in range(model.sent[road] + 2) for came in (False, True)]
             for road in range(len(form[1]))]
    for positions in itertools.product(*seen):
        for there in itertools.product(*marks):
            yield base, deeds, positions, there


class Along(ByMarks, unittest.TestCase):

    def test_each_deed_leads_to_a_right_one(self):
        finished = 0
        for seed in range(120):
            chance = random.Random(seed)
            form = in_rows(some_form(chance))
            marked = Marked(form, some_stand(chance, form)).walk(chance, chance.randint(0, 40))
            finished += marked.is_finished()
            self.each_deed_leads_on(marked)
            self.is_led_to(Marked(form, marked.base), marked.taking())
            self.is_taken(marked)
            marked.finish()
            self.is_led_to(Marked(form, marked.base), marked.taking())
            self.is_taken(marked)
            self.road_by_road(form, marked.taking())
        self.assertGreater(finished, 20)

    def road_by_road(self, form, taking):
        """Ask that just the letters below the marks that had not come then wait in the stand of a finished taking."""
        base, deeds, seen, marks = taking
        letters = journeys(form, base, deeds)
        for road, (_, other, _) in enumerate(form[1]):
            waiting = [k for (on, k), trip in sorted(letters.items())
                       if on == road and k < marks[road][0] and (trip[3] is None or trip[3] >= seen[other])]
            self.assertEqual([k for k, _ in marks_taken(form, taking)[1][1][road][1]], waiting)

    def test_finished_by_hand(self):
        self.assertEqual(marks_taken(PAIR, FINISHED), ((1, 4), ((0, 0), ((8, ()), (1, ((0, "b"),))))))
        for part in [(2, 0), (2, 1)]:
            self.assertIsNone(marks_taken(PAIR, put(marks_first(PAIR, BASE), part, 0)))
        self.assertIsNone(marks_taken(PAIR, put(FINISHED, (3, 1, 1), False)))
        self.assertEqual(marks_taken(ALONE, (first(ALONE), (("own", 0),), (0,), ())), ((0,), first(ALONE)))
        self.assertIsNone(marks_taken(ALONE, (first(ALONE), (("own", 0),), (None,), ())))

    def test_letters_on_the_roads_belong_to_the_stand(self):
        # 1 is taken down at once, 0 behind two sendings; the letters that come at 1 meanwhile wait in the cut.
        taking = marks_first(PAIR, first(PAIR))
        for deed in [("begin", 1), ("own", 0), ("own", 0), ("come", 0, 0), ("begin", 0), ("come", 0, 1), ("mark", 0),
                     ("mark", 1)]:
            self.assertIsNone(marks_taken(PAIR, taking))
            taking = marks_done(PAIR, taking, deed)
        self.assertEqual(marks_taken(PAIR, taking), ((2, 0), ((0, 0), ((2, ((0, "a"), (1, "a"))), (0, ())))))

    def test_a_told_list_is_the_askers_own(self):
        way = marks_way(PAIR, ONE)
        self.assertEqual(sorted(way), [("begin", 0), ("own", 0)])
        kept = list(way)
        way.clear()
        self.assertEqual(marks_way(PAIR, ONE), kept)

    def test_of_no_deeds(self):
        self.assertEqual(marks_way(PAIR, marks_first(PAIR, BASE)), [])

    def test_crowded(self):
        begin = time.perf_counter()
        form, stand, deeds = crowded()
        form = in_rows(form)
        stand = put(stand, (1,), stand[1][4:] * 2)
        taking = marks_first(form, stand)
        comes = [("come", n % 8, 10 ** 9 - 117 + n // 8) for n in range(60)]
        for deed in comes[:30] + [("begin", 1)] + comes[30:]:
            taking = marks_done(form, taking, deed)
        self.assertIs(right_marks(form, taking), True)
        self.assertIsNone(marks_taken(form, taking))
        self.assertEqual(len(marks_way(form, taking)), 61)
        self.assertLess(time.perf_counter() - begin, 10)


if __name__ == "__main__":
    unittest.main()
