import itertools
import time
import unittest

from cutstand.cuts import both, either, greatest_without, least_with, right_cut, stand_at
from cutstand.errors import NoCut
from cutstand.pasts import events_of, letters_of
from cutstand.plain import run
from cutstand.stands import first, right_stand
from helper import (ALONE, MIDST, MIDST_RUN, ODD_THINGS, RUN, RUN_CLOCKS, RUN_END, RUN_EVENTS, TALK, Model, crowded,
                    refused, some_runs, unchanged)


def all_cuts(form, deeds):
    """All tuples of positions that a run has, right or not."""
    events = events_of(form, deeds)
    ends = [len([1 for event in events if event[0] == m]) for m in range(len(form[0]))]
    return list(itertools.product(*[range(end + 1) for end in ends]))


def unsent(form, stand, deeds, cut):
    """The machines at which a letter came in the cut that was not sent in it, by the model alone."""
    model, senders, counts, found = Model(form, stand), {}, [0] * len(form[0]), []
    for deed in deeds:
        (m, _), sent = model.do(deed)
        inside = counts[m] < cut[m]
        if inside and deed[0] == "come" and not senders.get(deed[1:], True):
            found.append(m)
        senders.update((letter, inside) for letter in sent)
        counts[m] += 1
    return found


def right_ones(form, stand, deeds):
    return [cut for cut in all_cuts(form, deeds) if not unsent(form, stand, deeds, cut)]


def stand_by_words(form, stand, deeds, cut):
    """The stand of a cut, put together road by road from what the whole run did."""
    model, counts = Model(form, stand), [0] * len(form[0])
    states, sent = list(stand[0]), [road[0] for road in stand[1]]
    waiting = [dict(road[1]) for road in stand[1]]
    for deed in deeds:
        (m, _), letters = model.do(deed)
        if counts[m] < cut[m]:
            states[m] = model.states[m]
            if deed[0] == "come":
                waiting[deed[1]].pop(deed[2])
            for road, k in letters:
                sent[road] += 1
                waiting[road][k] = model.waiting[road][k]
        counts[m] += 1
    return tuple(states), tuple((many, tuple(sorted(there.items()))) for many, there in zip(sent, waiting))


class RightCuts(unittest.TestCase):

    def wrong(self, place, word, thing, form=TALK, stand=None, deeds=RUN):
        begin = first(form) if stand is None else stand
        refused(self, NoCut, {"place": place, "word": word}, right_cut, form, begin, deeds, thing)

    def right(self, cut, form=TALK, stand=None, deeds=RUN):
        begin = first(form) if stand is None else stand
        self.assertIs(unchanged(self, right_cut, form, begin, deeds, cut), True)

    def test_right_ones(self):
        for cut in [(0, 0, 0), (3, 3, 3), (1, 0, 0), (2, 0, 0), (2, 3, 0), (2, 0, 1), (1, 3, 2)] + RUN_CLOCKS:
            self.right(cut)
            self.right(cut, deeds=tuple(RUN))

    def test_of_no_deeds_and_of_one_machine(self):
        self.right((0, 0, 0), deeds=[])
        self.wrong(2, "far", (0, 0, 1), deeds=())
        self.right((1,), ALONE, None, [("own", 0)])
        self.wrong(0, "far", (2,), ALONE, None, [("own", 0)])

    def test_letters_that_waited_at_first_were_sent(self):
        for cut in itertools.product(range(4), range(2), range(4)):
            self.right(cut, TALK, MIDST, MIDST_RUN)

    def test_shape(self):
        for thing in ODD_THINGS + [(0, 0), (0, 0, 0, 0), [0, 0, 0], (0, 0, "0"), (0, None, 0), (True, 0, 0), (0, 0, False),
                                   ((0,), 0, 0), ((0, 0, 0),), (0, 0, [])]:
            self.wrong(0, "shape", thing)

    def test_far(self):
        for far in (-1, -(10 ** 19), 4, 10 ** 19):
            self.wrong(0, "far", (far, 0, 0))
            self.wrong(1, "far", (0, far, 0))
            self.wrong(2, "far", (0, 0, far))
            self.wrong(1, "far", (3, far, far))

    def test_came(self):
        self.wrong(1, "came", (0, 1, 0))
        self.wrong(2, "came", (0, 0, 1))
        self.wrong(0, "came", (3, 0, 0))
        self.wrong(0, "came", (3, 3, 0))
        self.wrong(2, "came", (1, 2, 2))
        self.wrong(2, "came", (1, 0, 3))

    def test_where_several_are_due_the_first_goes(self):
        self.wrong(0, "shape", (9, -1, True))
        self.wrong(0, "shape", (9, 1))
        self.wrong(0, "far", (9, -1, 9))
        self.wrong(2, "far", (0, 1, 9))
        self.wrong(1, "far", (3, -1, 1))
        self.wrong(1, "came", (0, 1, 1))
        self.wrong(1, "came", (0, 3, 3))
        self.wrong(0, "came", (3, 0, 0))

    def test_the_least_machine_not_the_first_letter(self):
        # Machine 2 hears first of what is not in the cut, machine 1 later, on a road of a higher number.
        form = (((0, ((0, "own", 0, ((0, "a"), (1, "b")), None),)), (0, ()), (0, ())), ((0, 2, "row"), (0, 1, "row")))
        deeds = [("own", 0), ("come", 0, 0), ("come", 1, 0)]
        self.wrong(1, "came", (0, 1, 1), form, None, deeds)

    def test_all_cuts_of_some_runs(self):
        for _, form, stand, deeds in some_runs(9, 40):
            for cut in all_cuts(form, deeds):
                machines = unsent(form, stand, deeds, cut)
                if machines:
                    self.wrong(min(machines), "came", cut, form, stand, deeds)
                else:
                    self.right(cut, form, stand, deeds)


class Stands(unittest.TestCase):

    def test_nothing_and_all(self):
        self.assertEqual(unchanged(self, stand_at, TALK, first(TALK), RUN, (0, 0, 0)), first(TALK))
        self.assertEqual(stand_at(TALK, first(TALK), tuple(RUN), (3, 3, 3)), RUN_END)
        self.assertEqual(stand_at(TALK, MIDST, [], (0, 0, 0)), MIDST)

    def test_between(self):
        told = stand_at(TALK, first(TALK), RUN, (1, 3, 1))
        self.assertEqual(told, (
            (1, 5, 98),
            ((2, ()), (2, ((0, "d"), (1, "e"))), (1, ()), (4, ((0, "p"), (1, "q"), (2, "r"), (3, "s"))), (1, ((0, "d"),))),
        ))

    def test_letters_that_waited_at_first(self):
        told = stand_at(TALK, MIDST, MIDST_RUN, (0, 1, 1))
        self.assertEqual(told, (
            (1, 6, 99),
            ((4, ((3, "c"),)), (1, ()), (6, ((0, "b"), (4, "b"))), (9, ((8, "q"),)), (2, ((0, "d"), (1, "z")))),
        ))

    def test_right_cuts_of_some_runs(self):
        for _, form, stand, deeds in some_runs(9, 40):
            end = run(form, stand, deeds)[0]
            events = events_of(form, deeds)
            for cut in right_ones(form, stand, deeds):
                told = stand_at(form, stand, deeds, cut)
                self.assertEqual(told, stand_by_words(form, stand, deeds, cut))
                self.assertIs(right_stand(form, told), True)
                rest = [deed for deed, event in zip(deeds, events) if event[1] >= cut[event[0]]]
                self.assertEqual(run(form, told, rest)[0], end)


class BothAndEither(unittest.TestCase):

    def test_any_two_tuples(self):
        self.assertEqual(unchanged(self, both, (1, 5, -3), (2, 0, 10 ** 19)), (1, 0, -3))
        self.assertEqual(unchanged(self, either, (1, 5, -3), (2, 0, 10 ** 19)), (2, 5, 10 ** 19))
        self.assertEqual((both((), ()), either((), ())), ((), ()))
        self.assertEqual((both((4,), (4,)), either((4,), (4,))), ((4,), (4,)))

    def test_of_right_ones_both_are_right(self):
        for _, form, stand, deeds in some_runs(7, 25):
            cuts = right_ones(form, stand, deeds)
            for one, other in itertools.product(cuts, cuts):
                self.assertIn(both(one, other), cuts)
                self.assertIn(either(one, other), cuts)


class LeastAndGreatest(unittest.TestCase):

    def test_of_no_events(self):
        self.assertEqual(unchanged(self, least_with, TALK, first(TALK), RUN, []), (0, 0, 0))
        self.assertEqual(unchanged(self, greatest_without, TALK, first(TALK), RUN, []), (3, 3, 3))
        self.assertEqual(least_with(TALK, MIDST, [], []), (0, 0, 0))
        self.assertEqual(greatest_without(TALK, MIDST, (), []), (0, 0, 0))

    def test_of_one(self):
        for event, clock in zip(RUN_EVENTS, RUN_CLOCKS):
            self.assertEqual(least_with(TALK, first(TALK), RUN, [event]), clock)
        greatest = [(0, 0, 0), (3, 0, 1), (2, 3, 0), (3, 1, 1), (3, 2, 1), (3, 3, 1), (1, 3, 3), (2, 3, 3), (3, 3, 2)]
        for event, cut in zip(RUN_EVENTS, greatest):
            self.assertEqual(greatest_without(TALK, first(TALK), RUN, [event]), cut)

    def test_of_several_and_of_one_twice(self):
        events = [(0, 2), (1, 1), (0, 2)]
        self.assertEqual(unchanged(self, least_with, TALK, first(TALK), RUN, events), (3, 2, 1))
        self.assertEqual(unchanged(self, greatest_without, TALK, first(TALK), RUN, events), (2, 1, 1))
        self.assertEqual(least_with(TALK, first(TALK), RUN, [(2, 1), (2, 1)]), (1, 3, 2))
        self.assertEqual(greatest_without(TALK, first(TALK), RUN, [(2, 1), (2, 1)]), (3, 3, 1))

    def test_against_all_right_cuts_of_some_runs(self):
        for chance, form, stand, deeds in some_runs(9, 60):
            cuts = right_ones(form, stand, deeds)
            events = events_of(form, deeds)
            for many in (0, 1, 1, 2, 3, 4):
                asked = [chance.choice(events) for _ in range(many)]
                having = [cut for cut in cuts if all(event[1] < cut[event[0]] for event in asked)]
                lacking = [cut for cut in cuts if not any(event[1] < cut[event[0]] for event in asked)]
                least = unchanged(self, least_with, form, stand, deeds, asked)
                greatest = unchanged(self, greatest_without, form, stand, deeds, asked)
                self.assertIn(least, having)
                self.assertEqual(least, tuple(map(min, zip(*having))))
                self.assertIn(greatest, lacking)
                self.assertEqual(greatest, tuple(map(max, zip(*lacking))))


class WithoutLongWaits(unittest.TestCase):

    def test_many_letters_and_deeds(self):
        form, stand, deeds = crowded()
        events = events_of(form, deeds)
        begin = time.monotonic()
        middle = least_with(form, stand, deeds, events[:100])
        outer = greatest_without(form, stand, deeds, events[100:] * 2)
        self.assertIs(right_cut(form, stand, deeds, middle), True)
        self.assertIs(right_cut(form, stand, deeds, outer), True)
        half = stand_at(form, stand, deeds, middle)
        self.assertLess(time.monotonic() - begin, 20)
        self.assertEqual(half, run(form, stand, deeds[:100])[0])
        self.assertEqual((sum(middle), middle), (100, outer))
        self.assertEqual(len(letters_of(form, stand, deeds)), 8 * 117 + 600)


if __name__ == "__main__":
    unittest.main()
