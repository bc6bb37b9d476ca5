import itertools
import random
import time
import unittest

from cutstand.colours import colours_done, colours_first, colours_taken, colours_way, right_colours
from cutstand.errors import NoDeed, NoTaking
from cutstand.stands import first
from helper import (ALONE, MIDST, ODD_THINGS, TALK, AskTakings, AtWork, Model, crowded, ends, journeys, put, some_form,
                    some_stand, unchanged)

# Two machines, each of which sends the other a letter by itself, 0 on a heap, 1 on a row.
PAIR = (
    ((0, ((0, "own", 0, ((0, "a"),), None),)), (0, ((0, "own", 0, ((1, "b"),), "w"),))),
    ((0, 1, "heap"), (1, 0, "row")),
)
BASE = ((0, 0), ((7, ((2, "x"), (6, "y"))), (0, ())))

# 0 sends a pale letter, 7, is taken down, and sends a dark one, 8.
ONE = (BASE, (("own", 0), ("own", 0)), (1, None))


class Coloured(AtWork):
    """A taking by colours at work."""

    def __init__(self, form, base):
        AtWork.__init__(self, form, base)
        self.dark = {}

    def do(self, deed):
        if deed[0] == "come" and deed[1:] in self.dark and self.seen[self.form[1][deed[1]][1]] is None:
            self.do(("begin", self.form[1][deed[1]][1]))
        for road, k in AtWork.do(self, deed):
            if self.seen[self.form[1][road][0]] is not None:
                self.dark[(road, k)] = True

    def is_finished(self):
        pale = [(road, k) for road, there in enumerate(self.model.waiting) for k in there if (road, k) not in self.dark]
        return None not in self.seen and not pale

    def finish(self):
        """Take all down, and let letters come until all that wait are dark."""
        for m in range(len(self.seen)):
            if self.seen[m] is None:
                self.do(("begin", m))
        while not self.is_finished():
            comings = [deed for deed in self.model.possible() if deed[0] == "come"]
            self.do(([deed for deed in comings if deed[1:] not in self.dark] or comings)[0])


def fault(form, taking):
    """The (word, number) that is due of a taking of the right shape, None of a right one."""
    base, deeds, seen = taking
    model = Model(form, base)
    for number, deed in enumerate(deeds):
        if deed[0] != "hear" and deed not in model.possible():
            return "deed", number
        model.do(deed)
    for m, end in enumerate(ends(form, deeds)):
        if seen[m] is not None and seen[m] not in range(end + 1):
            return "seen", m
    due = []
    for sender, sent, taker, came, _, coming in journeys(form, base, deeds).values():
        if sent is not None and seen[sender] is not None and sent >= seen[sender] and came is not None:
            if seen[taker] is None or came < seen[taker]:
                due.append(coming)
    return ("dark", min(due)) if due else None


class ByColours(AskTakings):
    first, done, right = staticmethod(colours_first), staticmethod(colours_done), staticmethod(right_colours)
    way, taken = staticmethod(colours_way), staticmethod(colours_taken)


class Done(ByColours, unittest.TestCase):

    def test_first(self):
        self.assertEqual(unchanged(self, colours_first, PAIR, BASE), (BASE, (), (None, None)))
        self.assertEqual(colours_first(ALONE, first(ALONE)), (first(ALONE), (), (None,)))
        self.assertEqual(colours_first(TALK, MIDST), (MIDST, (), (None, None, None)))

    def test_step_by_step(self):
        taking = self.leads(PAIR, colours_first(PAIR, BASE), ("own", 0), (BASE, (("own", 0),), (None, None)))
        taking = self.leads(PAIR, taking, ("begin", 0), (BASE, (("own", 0),), (1, None)))
        taking = self.leads(PAIR, taking, ("own", 0), ONE)
        deeds = ONE[1] + (("come", 0, 7),)
        taking = self.leads(PAIR, taking, ("come", 0, 7), (BASE, deeds, (1, None)))
        # The dark letter takes down 1 ahead of its coming.
        taking = self.leads(PAIR, taking, ("come", 0, 8), (BASE, deeds + (("come", 0, 8),), (1, 1)))
        taking = self.leads(PAIR, taking, ("come", 0, 2), (BASE, deeds + (("come", 0, 8), ("come", 0, 2)), (1, 1)))
        self.leads(PAIR, taking, ("hear", 1, "q"), (BASE, taking[1] + (("hear", 1, "q"),), (1, 1)))

    def test_letters_of_the_base_are_pale(self):
        taking = self.leads(PAIR, colours_first(PAIR, BASE), ("begin", 0), (BASE, (), (0, None)))
        self.leads(PAIR, taking, ("come", 0, 6), (BASE, (("come", 0, 6),), (0, None)))

    def test_a_machine_that_is_taken_down_stays_so(self):
        taking = self.leads(PAIR, (BASE, ONE[1], (1, 0)), ("come", 0, 8), (BASE, ONE[1] + (("come", 0, 8),), (1, 0)))
        self.leads(PAIR, taking, ("own", 1), (BASE, ONE[1] + (("come", 0, 8), ("own", 1)), (1, 0)))

    def test_dark_on_a_row_road(self):
        form = (PAIR[0], ((0, 1, "row"), (1, 0, "row")))
        base = first(form)
        taking = (base, (("own", 0), ("own", 0)), (1, None))
        taking = self.leads(form, taking, ("come", 0, 0), (base, taking[1] + (("come", 0, 0),), (1, None)))
        self.leads(form, taking, ("come", 0, 1), (base, taking[1] + (("come", 0, 1),), (1, 1)))

    def test_things_that_are_no_deeds(self):
        odd = [("begin",), ("begin", 2), ("begin", -1), ("begin", True), ("begin", False), ("begin", None), ("begin", "0"),
               ("begin", 0, 0), ["begin", 0], ("mark", 0), ("mark", 1), ("keep", 0), ("own", 2), ("own", True),
               ("hear", 0, "A"), ("hear", 2, "a"), ("come", 2, 0), ("come", False, 2), ("come", 0, True), ("come", 0, "2"),
               ["own", 0], (("begin", 0),)]
        for taking in (colours_first(PAIR, BASE), ONE):
            for thing in ODD_THINGS + odd:
                self.no(NoDeed, PAIR, taking, thing, number=0)

    def test_plain_deeds_that_cannot_be_done(self):
        for k in (0, 1, 9, -1, 10 ** 19):
            self.no(NoDeed, PAIR, ONE, ("come", 0, k), number=0)
        self.no(NoDeed, PAIR, ONE, ("come", 1, 0), number=0)
        self.no(NoDeed, ALONE, (first(ALONE), (("own", 0),), (0,)), ("own", 0), number=0)

    def test_begin_twice(self):
        self.no(NoTaking, PAIR, ONE, ("begin", 0), word="seen", number=0)
        self.no(NoTaking, PAIR, (BASE, (), (None, 0)), ("begin", 1), word="seen", number=1)
        self.leads(PAIR, ONE, ("begin", 1), (BASE, ONE[1], (1, 0)))


class Right(ByColours, unittest.TestCase):

    def wrong(self, word, number, thing, form=PAIR):
        self.is_due((word, number), form, thing)

    def test_right_ones(self):
        for taking in (colours_first(PAIR, BASE), ONE, (BASE, ONE[1], (2, 0)), (BASE, ONE[1], (0, 0))):
            self.assertIs(unchanged(self, right_colours, PAIR, taking), True)
        self.assertIs(right_colours(ALONE, (first(ALONE), (("own", 0),), (1,))), True)
        self.assertIs(right_colours(TALK, colours_first(TALK, MIDST)), True)

    def test_shape(self):
        odd = [ONE[:2], ONE + ((),), ONE + ((None, None),), list(ONE), (ONE,), put(ONE, (0,), None), put(ONE, (0, 0), (0,)),
               put(ONE, (0, 0, 0), False), put(ONE, (0, 1, 0, 0), 6), put(ONE, (0,), list(BASE)),
               put(ONE, (1,), list(ONE[1])), put(ONE, (1,), None), put(ONE, (2,), (1,)), put(ONE, (2,), (1, None, None)),
               put(ONE, (2,), [1, None]), put(ONE, (2, 0), True), put(ONE, (2, 1), False), put(ONE, (2, 0), "1"),
               put(ONE, (2, 0), (1,))]
        for thing in ODD_THINGS + odd:
            self.wrong("shape", 0, thing)

    def test_deed(self):
        for thing in ODD_THINGS + [("own", 2), ("hear", 0, 0), ("come", 0, 0), ("come", 1, 0), ("begin", 0), ["own", 0]]:
            self.wrong("deed", 0, (BASE, (thing,), (None, None)))
            self.wrong("deed", 2, (BASE, (("own", 0), ("hear", 1, "k"), thing, thing), (None, None)))

    def test_seen(self):
        for position in (-1, 3, 10 ** 19, -(10 ** 19)):
            self.wrong("seen", 0, put(ONE, (2, 0), position))
            self.wrong("seen", 1, put(ONE, (2, 1), position))
        self.wrong("seen", 1, put(ONE, (2, 1), 1))

    def test_dark(self):
        deeds = ONE[1] + (("come", 0, 2), ("come", 0, 8), ("come", 0, 7))
        self.wrong("dark", 3, (BASE, deeds, (1, None)))
        self.wrong("dark", 3, (BASE, deeds, (1, 2)))
        self.wrong("dark", 3, (BASE, deeds, (1, 3)))
        self.wrong("dark", 4, (BASE, deeds[:3] + (deeds[4], deeds[3]), (1, None)))
        self.wrong("dark", 3, (BASE, deeds, (0, None)))
        self.wrong("dark", 4, (BASE, deeds[:3] + (deeds[4], deeds[3]), (1, 3)))
        for seen in [(1, 1), (1, 0), (2, None), (2, 3), (None, 0), (None, None), (0, 1)]:
            self.assertIs(right_colours(PAIR, (BASE, deeds, seen)), True)

    def test_the_first_deed_not_the_least_letter(self):
        deeds = (("own", 0), ("own", 0), ("come", 0, 8), ("come", 0, 7))
        self.wrong("dark", 2, (BASE, deeds, (0, None)))
        self.wrong("dark", 2, (BASE, deeds, (0, 1)))
        self.wrong("dark", 2, (BASE, deeds, (0, 2)))

    def test_where_several_are_due_the_first_goes(self):
        self.wrong("shape", 0, (BASE, (("come", 0, 0),), (9, True)))
        self.wrong("deed", 0, (BASE, (("come", 0, 0),), (9, 9)))
        self.wrong("seen", 0, (BASE, ONE[1] + (("come", 0, 8),), (-1, 9)))
        self.wrong("seen", 1, (BASE, ONE[1] + (("come", 0, 8),), (0, 9)))
        self.wrong("dark", 2, (BASE, ONE[1] + (("come", 0, 8), ("come", 0, 7)), (0, None)))

    def test_all_short_takings(self):
        # Just those are right to which deeds lead.
        for form, base in [(PAIR, ((0, 0), ((1, ((0, "x"),)), (0, ())))), (PAIR, first(PAIR))]:
            reached = Coloured(form, base).all_reached(4)
            met = 0
            for deeds in sorted(set(deeds for _, deeds, _ in reached)):
                for seen in itertools.product(*[[None] + list(range(-1, end + 2)) for end in ends(form, deeds)]):
                    due = fault(form, (base, deeds, seen))
                    self.assertEqual(due is None, (base, deeds, seen) in reached)
                    self.is_due(due, form, (base, deeds, seen))
                    met += due is None
            self.assertEqual(met, len(reached))

    def test_some_takings_somewhat_changed(self):
        words = {}
        for seed in range(1000):
            chance = random.Random(seed)
            form = some_form(chance)
            base = some_stand(chance, form)
            base, deeds, seen = Coloured(form, base).walk(chance, chance.randint(0, 30)).taking()
            deeds, seen = list(deeds), list(seen)
            if deeds and chance.random() < 0.3:
                deeds.pop(chance.choice([0, -1]))
            for _ in range(chance.randint(1, 2)):
                m = chance.randrange(len(seen))
                seen[m] = chance.choice([None, -1, 0, 1, chance.randint(0, ends(form, deeds)[m] + 1)])
            taking = (base, tuple(deeds), tuple(seen))
            due = fault(form, taking)
            words[due and due[0]] = True
            self.is_due(due, form, taking)
        self.assertEqual(set(words), {None, "deed", "seen", "dark"})


class Along(ByColours, unittest.TestCase):

    def test_each_deed_leads_to_a_right_one(self):
        finished = 0
        for seed in range(150):
            chance = random.Random(seed)
            form = some_form(chance)
            coloured = Coloured(form, some_stand(chance, form)).walk(chance, chance.randint(0, 40))
            finished += coloured.is_finished()
            self.each_deed_leads_on(coloured)
            self.is_led_to(Coloured(form, coloured.base), coloured.taking())
            self.is_taken(coloured)
            coloured.finish()
            self.is_led_to(Coloured(form, coloured.base), coloured.taking())
            self.is_taken(coloured)
        self.assertGreater(finished, 20)

    def test_finished_by_hand(self):
        taking = (BASE, ONE[1], (1, 0))
        for k in (2, 8, 6, 7):
            self.assertIsNone(colours_taken(PAIR, taking))
            taking = colours_done(PAIR, taking, ("come", 0, k))
        # The letters that came behind the position of 1 wait in the cut; the dark one was not sent there.
        stand = ((0, 0), ((8, ((2, "x"), (6, "y"), (7, "a"))), (0, ())))
        self.assertEqual(colours_taken(PAIR, taking), ((1, 0), stand))
        self.assertEqual(colours_taken(PAIR, colours_done(PAIR, taking, ("own", 0))), ((1, 0), stand))
        self.assertIsNone(colours_taken(PAIR, put(taking, (2, 0), None)))

    def test_while_a_machine_is_not_taken_down(self):
        self.assertIsNone(colours_taken(PAIR, (first(PAIR), (), (None, 0))))
        self.assertIsNone(colours_taken(PAIR, (first(PAIR), (), (0, None))))
        self.assertEqual(colours_taken(PAIR, (first(PAIR), (), (0, 0))), ((0, 0), first(PAIR)))
        self.assertEqual(colours_taken(ALONE, (first(ALONE), (("own", 0),), (1,))), ((1,), ((4,), ())))
        self.assertIsNone(colours_taken(ALONE, (first(ALONE), (("own", 0),), (None,))))

    def test_dark_letters_may_wait(self):
        taking = (first(PAIR), (("own", 0), ("own", 1)), (0, 0))
        self.assertEqual(colours_taken(PAIR, taking), ((0, 0), first(PAIR)))
        self.assertIsNone(colours_taken(PAIR, put(taking, (2, 0), 1)))
        self.assertIsNone(colours_taken(PAIR, put(taking, (2, 1), 1)))
        self.assertIsNone(colours_taken(PAIR, (BASE, (), (0, 0))))

    def test_a_told_list_is_the_askers_own(self):
        way = colours_way(PAIR, ONE)
        self.assertEqual(way, [("own", 0), ("begin", 0), ("own", 0)])
        kept = list(way)
        way.clear()
        self.assertEqual(colours_way(PAIR, ONE), kept)
        self.assertEqual(colours_way(PAIR, colours_first(PAIR, BASE)), [])

    def test_crowded(self):
        begin = time.perf_counter()
        form, stand, deeds = crowded()
        taking = colours_first(form, stand)
        for number, deed in enumerate(deeds[:60]):
            taking = colours_done(form, taking, deed)
            if number == 30:
                taking = colours_done(form, taking, ("begin", 2))
        self.assertIs(right_colours(form, taking), True)
        self.assertIsNone(colours_taken(form, taking))
        self.assertLess(time.perf_counter() - begin, 10)


if __name__ == "__main__":
    unittest.main()
