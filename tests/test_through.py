import itertools
import time
import unittest

from cutstand.cuts import right_cut, stand_at
from cutstand.errors import NoCut
from cutstand.stands import first
from cutstand.through import through, way_asked
from helper import (ALONE, MIDST, MIDST_RUN, ODD_THINGS, RUN, RUN_END, TALK, Model, crowded, ends, put,
                    refused, relation, some_runs, unchanged)

ALL = tuple(range(len(RUN)))


def machine(form, deed):
    return form[1][deed[1]][1] if deed[0] == "come" else deed[1]


def right_cuts(form, stand, deeds):
    """All right cuts of a run."""
    found = []
    for cut in itertools.product(*[range(end + 1) for end in ends(form, deeds)]):
        try:
            right_cut(form, stand, deeds, cut)
            found.append(cut)
        except NoCut:
            pass
    return found


def some_order(chance, form, stand, deeds):
    """The numbers of a run's deeds in some other order in which nothing stands ahead of what is before it."""
    pairs, order = relation(form, stand, deeds), []
    left = list(range(len(deeds)))
    while left:
        free = [number for number in left if not any((other, number) in pairs for other in left)]
        order.append(chance.choice(free))
        left.remove(order[-1])
    return order


def last_stand(form, stand, deeds):
    model = Model(form, stand)
    for deed in deeds:
        model.do(deed)
    return model.stand()


# The stands behind none, one and more of the deeds of RUN.
RUN_STANDS = [last_stand(TALK, first(TALK), RUN[:many]) for many in range(len(RUN) + 1)]


def fault(form, stand, deeds, told, numbers, many):
    """The (place, word) that is due of a way of the right shape, None of a right one, by the words of the document."""
    stood = []
    for place, number in enumerate(numbers):
        if not 0 <= number < len(deeds):
            return place, "order"
        own = [n for n in range(len(deeds)) if machine(form, deeds[n]) == machine(form, deeds[number])]
        if [n for n in own if n not in stood][:1] != [number]:
            return place, "order"
        stood.append(number)
    if set(range(len(deeds))) - set(stood):
        return len(numbers), "order"
    if not 0 <= many <= len(numbers):
        return 0, "many"
    model = Model(form, stand)
    stands = [stand]
    for place, number in enumerate(numbers):
        if deeds[number][0] != "hear" and deeds[number] not in model.possible():
            return place, "deed"
        model.do(deeds[number])
        stands.append(model.stand())
    return None if stands[many] == told else (many, "stand")


class Through(unittest.TestCase):

    def goes(self, form, stand, deeds, cut):
        """Ask of the told way all that a way through this cut has."""
        way = unchanged(self, through, form, stand, deeds, cut)
        self.assertEqual((type(way), len(way), type(way[0]), type(way[1])), (tuple, 2, tuple, int))
        numbers, many = way
        counts = [0] * len(form[0])
        inside = []
        for number, deed in enumerate(deeds):
            m = machine(form, deed)
            if counts[m] < cut[m]:
                inside.append(number)
            counts[m] += 1
        self.assertEqual(sorted(numbers[:many]), inside)
        self.assertIsNone(fault(form, stand, deeds, stand_at(form, stand, deeds, cut), numbers, many))
        self.assertIs(unchanged(self, way_asked, form, stand, deeds, stand_at(form, stand, deeds, cut), way), True)

    def test_nothing_all_and_between(self):
        for cut in [(0, 0, 0), (3, 3, 3), (1, 0, 0), (2, 3, 0), (3, 0, 1), (1, 3, 3), (2, 1, 1)]:
            self.goes(TALK, first(TALK), RUN, cut)
            self.goes(TALK, first(TALK), tuple(RUN), cut)
        self.assertEqual(through(TALK, first(TALK), RUN, (0, 0, 0))[1], 0)
        self.assertEqual(through(TALK, first(TALK), RUN, (3, 3, 3))[1], 9)

    def test_no_deeds_and_one_machine(self):
        self.assertEqual(through(TALK, MIDST, [], (0, 0, 0)), ((), 0))
        self.goes(TALK, MIDST, [], (0, 0, 0))
        self.assertEqual(through(ALONE, first(ALONE), [("own", 0), ("hear", 0, "z")], (1,)), ((0, 1), 1))

    def test_letters_that_waited(self):
        for cut in itertools.product(range(4), range(2), range(4)):
            self.goes(TALK, MIDST, MIDST_RUN, cut)

    def test_all_right_cuts_of_some_runs(self):
        for _, form, stand, deeds in some_runs(8, 40):
            for cut in right_cuts(form, stand, deeds):
                self.goes(form, stand, deeds, cut)

    def test_crowded(self):
        begin = time.perf_counter()
        form, stand, deeds = crowded()
        cut = tuple(ends(form, deeds))
        way = through(form, stand, deeds, cut)
        self.assertTrue(way_asked(form, stand, deeds, stand_at(form, stand, deeds, cut), way))
        self.assertLess(time.perf_counter() - begin, 5)


class WayAsked(unittest.TestCase):

    def wrong(self, place, word, way, told=None, form=TALK, stand=None, deeds=RUN):
        begin = first(form) if stand is None else stand
        refused(self, NoCut, {"place": place, "word": word}, way_asked, form, begin, deeds, told, way)

    def test_each_many_with_its_stand(self):
        for many, stand in enumerate(RUN_STANDS):
            self.assertIs(unchanged(self, way_asked, TALK, first(TALK), RUN, stand, (ALL, many)), True)
            self.assertIs(unchanged(self, way_asked, TALK, first(TALK), tuple(RUN), stand, (ALL, many)), True)
        self.assertEqual(RUN_STANDS[-1], RUN_END)

    def test_other_orders(self):
        for chance, form, stand, deeds in some_runs(12, 60):
            order = some_order(chance, form, stand, deeds)
            model, stands = Model(form, stand), [stand]
            for number in order:
                model.do(deeds[number])
                stands.append(model.stand())
            self.assertEqual(stands[-1], last_stand(form, stand, deeds))
            for many, told in enumerate(stands):
                self.assertIs(way_asked(form, stand, deeds, told, (tuple(order), many)), True)

    def test_shape(self):
        for way in ODD_THINGS + [
                (ALL,), (ALL, 0, 0), [ALL, 0], (list(ALL), 0), (ALL, None), (ALL, "0"), (ALL, True), (ALL, False), (ALL, (0,)),
                (ALL, [0]), (0, ALL), ((0, None) + ALL[2:], 0), ((False,) + ALL[1:], 0), ((0, True) + ALL[2:], 0),
                (ALL[:-1] + ("8",), 0), (ALL[:-1] + ((8,),), 0), ((ALL, 0),), (None, 0), ("012345678", 0)]:
            self.wrong(0, "shape", way, first(TALK))

    def test_order(self):
        for odd in (-1, 9, 10 ** 19, -(10 ** 19), -9):
            self.wrong(0, "order", ((odd,) + ALL[1:], 0), first(TALK))
            self.wrong(4, "order", (ALL[:4] + (odd,) + ALL[5:], 0), first(TALK))
            self.wrong(9, "order", (ALL + (odd,), 0), first(TALK))
        # Machine 0 has the deeds 0, 6 and 7, machine 1 has 1, 3 and 4.
        self.wrong(0, "order", ((6, 0, 1, 2, 3, 4, 5, 7, 8), 0), first(TALK))
        self.wrong(1, "order", ((0, 7, 6, 1, 2, 3, 4, 5, 8), 0), first(TALK))
        self.wrong(1, "order", ((0, 3, 1, 2, 4, 5, 6, 7, 8), 0), first(TALK))
        self.wrong(1, "order", ((0, 0), 0), first(TALK))
        self.wrong(9, "order", (ALL + (3,), 0), first(TALK))

    def test_lacking(self):
        self.wrong(0, "order", ((), 0), first(TALK))
        self.wrong(8, "order", (ALL[:-1], 0), first(TALK))
        self.wrong(6, "order", ((0, 1, 2, 3, 4, 6), 0), first(TALK))
        self.wrong(0, "order", ((), 0), first(ALONE), ALONE, None, [("own", 0)])

    def test_many(self):
        for many in (-1, 10, 10 ** 19, -(10 ** 19)):
            self.wrong(0, "many", (ALL, many), first(TALK))
        self.wrong(0, "many", ((), 1), MIDST, TALK, MIDST, [])

    def test_deed(self):
        # The letters of deed 1 and 2 are sent by deed 0, that of 5 by 4, that of 7 by 2.
        self.wrong(0, "deed", ((1, 0, 2, 3, 4, 5, 6, 7, 8), 0), first(TALK))
        self.wrong(2, "deed", ((0, 6, 7, 1, 2, 3, 4, 5, 8), 0), first(TALK))
        self.wrong(4, "deed", ((0, 1, 2, 3, 5, 4, 6, 7, 8), 0), first(TALK))
        self.wrong(4, "deed", ((0, 1, 2, 3, 5, 4, 6, 7, 8), 2), RUN_STANDS[2])

    def test_stand(self):
        for many in range(10):
            for other in range(10):
                if RUN_STANDS[many] != RUN_STANDS[other]:
                    self.wrong(many, "stand", (ALL, many), RUN_STANDS[other])

    def test_any_thing_as_the_stand(self):
        for thing in ODD_THINGS + [list(RUN_END), (list(RUN_END[0]), RUN_END[1]), (RUN_END[0], list(RUN_END[1])),
                                   put(RUN_END, (1, 0), [3, ((2, "x"),)]), put(RUN_END, (1, 0, 1), [(2, "x")]),
                                   put(RUN_END, (1, 0, 1, 0), [2, "x"]), RUN_END + ((),), (RUN_END,)]:
            self.wrong(9, "stand", (ALL, 9), thing)

    def test_truths_in_the_place_of_whole_numbers(self):
        told = RUN_STANDS[1]
        self.assertEqual(told, ((1, 5, 99), ((2, ((0, "a"), (1, "c"))), (0, ()), (1, ((0, "b"),)), (0, ()), (0, ()))))
        for place, value in [((0, 0), True), ((1, 0, 1, 0, 0), False), ((1, 0, 1, 1, 0), True), ((1, 1, 0), False),
                             ((1, 2, 0), True)]:
            self.assertEqual(put(told, place, value), told)
            self.wrong(1, "stand", (ALL, 1), put(told, place, value))

    def test_where_several_are_due_the_first_goes(self):
        self.wrong(0, "shape", ((9, 9), True))
        self.wrong(0, "shape", ((9, None), -1))
        self.wrong(0, "order", ((9, 9), -1))
        self.wrong(1, "order", ((0, 9, 0), 99))
        self.wrong(2, "order", ((1, 3, 3), 99))
        self.wrong(2, "order", ((1, 0), 99))
        self.wrong(1, "order", ((1,), 99))
        self.wrong(0, "many", ((1, 0, 2, 3, 4, 5, 6, 7, 8), 10))
        self.wrong(0, "many", ((1, 0, 2, 3, 4, 5, 6, 7, 8), -1))
        self.wrong(0, "deed", ((1, 0, 2, 3, 4, 5, 6, 7, 8), 9))
        self.wrong(0, "deed", ((2, 1, 0, 3, 4, 5, 6, 7, 8), 3))

    def test_any_numbers_for_some_runs(self):
        for chance, form, stand, deeds in some_runs(6, 150):
            numbers = some_order(chance, form, stand, deeds)
            for _ in range(chance.randint(0, 2)):
                at = chance.randrange(7)
                numbers[at:at + chance.randint(0, 1)] = [chance.randint(-1, 6)] * chance.randint(0, 2)
            if chance.random() < 0.5:
                chance.shuffle(numbers)
            told = chance.choice([stand, last_stand(form, stand, deeds)])
            many = chance.randint(-1, 7)
            due = fault(form, stand, deeds, told, numbers, many)
            if due is None:
                self.assertIs(way_asked(form, stand, deeds, told, (tuple(numbers), many)), True)
            else:
                self.wrong(due[0], due[1], (tuple(numbers), many), told, form, stand, deeds)

    def test_all_orders_of_a_short_run(self):
        deeds = RUN[:4]
        for numbers in itertools.permutations(range(4)):
            for many in range(5):
                told = RUN_STANDS[many]
                due = fault(TALK, first(TALK), deeds, told, numbers, many)
                if due is None:
                    self.assertIs(way_asked(TALK, first(TALK), deeds, told, (numbers, many)), True)
                else:
                    self.wrong(due[0], due[1], (numbers, many), told, deeds=deeds)

    def test_what_is_let_by_is_a_right_cut(self):
        for chance, form, stand, deeds in some_runs(12, 40):
            order = some_order(chance, form, stand, deeds)
            for many in range(13):
                inside = [deeds[number] for number in sorted(order[:many])]
                cut = tuple(ends(form, inside))
                self.assertIs(right_cut(form, stand, deeds, cut), True)
                self.assertIs(way_asked(form, stand, deeds, stand_at(form, stand, deeds, cut), (tuple(order), many)), True)


if __name__ == "__main__":
    unittest.main()
