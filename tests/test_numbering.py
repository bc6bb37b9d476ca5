import itertools
import math
import time
import unittest

from cutstand.cuts import right_cut
from cutstand.errors import NoNumbers
from cutstand.numbering import line_by, numbers_asked, numbers_of, orderly
from cutstand.stands import first
from cutstand.wanted import extended_asked
from helper import (ALONE, MIDST, MIDST_RUN, ODD_THINGS, PING, RUN, TALK, Model, all_lines, busy_runs, crowded, ends,
                    journeys, ping_run, put, refused, some_choices, some_runs, unchanged)

# Machine 0 has four events here, machine 1 three. The letter (0, k) is sent by event k and comes by event k, (1, k) is
# sent by event k and comes by event k + 1; (0, 3) does not come.
DEEDS = ping_run(7)
CHOICES = ((0, 1, 2, 4), (0, 1, 2, 3))
NUMBERS = ((0, 1, 2, 3), (0, 1, 2, 3))


def floor(own, number):
    return max(place for place, choice in enumerate(own) if choice <= number)


def fault(form, base, deeds, choices, numbers):
    """The fields of the refusal that is due of numbers of the right form, None of right ones."""
    for m, own in enumerate(numbers):
        for place in range(1, len(own)):
            if own[place] <= own[place - 1]:
                return m, choices[m][place]
    for _, (sender, sent, taker, came, _, _) in sorted(journeys(form, base, deeds).items()):
        if sent is not None and came is not None:
            if came < max(choices[taker]) and sent >= max(choices[sender]):
                return sender, max(choices[sender])
            at = floor(choices[taker], came)
            if numbers[taker][at] < numbers[sender][floor(choices[sender], sent)]:
                return taker, choices[taker][at]
    return None


def small_rows(choices, most):
    """All rows of rising numbers of at most so much for the choices."""
    own_rows = [list(itertools.combinations(range(most + 1), len(own))) for own in choices]
    return itertools.product(*own_rows)


class LineBy(unittest.TestCase):

    def test_below_between_and_beyond(self):
        numbers = ((0, 2, 5, 9), (1, 3, 4, 10 ** 30))
        for number, line in [(-(10 ** 30), (0, 0)), (-1, (0, 0)), (0, (0, 0)), (1, (1, 0)), (2, (1, 1)), (3, (2, 1)),
                             (4, (2, 2)), (5, (2, 3)), (6, (4, 3)), (9, (4, 3)), (10, (4, 3)), (10 ** 30, (4, 3)),
                             (10 ** 30 + 1, (4, 3)), (10 ** 100, (4, 3))]:
            told = unchanged(self, line_by, CHOICES, numbers, number)
            self.assertEqual((told, type(told)), (line, tuple))

    def test_one_choice(self):
        self.assertEqual(line_by(((0,),), ((7,),), 8), (0,))
        self.assertEqual(line_by(((0,), (0, 2)), ((7,), (0, 1)), 1), (0, 2))

    def test_by_right_numbers_it_is_a_line_and_each_choice_stands_in_one(self):
        asked = 0
        for chance, form, base, deeds in itertools.chain(some_runs(12, 60), busy_runs(16, 150)):
            choices, numbers = orderly(form, base, deeds, some_choices(chance, form, deeds))
            stood = [set() for _ in choices]
            for number in list(range(-1, max(map(max, numbers)) + 2)) + [10 ** 25]:
                line = line_by(choices, numbers, number)
                self.assertIs(right_cut(form, base, deeds, line), True)
                for own, position in zip(stood, line):
                    own.add(position)
            self.assertEqual([tuple(sorted(own)) for own in stood], list(choices))
            asked += 1
        self.assertEqual(asked, 210)


class NumbersOf(unittest.TestCase):

    def ask(self, form, base, deeds, choices):
        """Ask what can be asked of an outcome by itself; tell it."""
        told = unchanged(self, numbers_of, form, base, deeds, choices)
        self.assertIs(type(told), tuple)
        if told[0] == "numbers":
            self.assertEqual(len(told), 2)
            self.assertEqual([type(part) for part in told[1]], [tuple] * len(choices))
            self.assertIs(numbers_asked(form, base, deeds, choices, told[1]), True)
            self.assertIsNone(fault(form, base, deeds, choices, told[1]))
        else:
            self.assertEqual((told[0], len(told)), ("useless", 4))
            wanted = {told[1]: told[2]}
            self.assertIs(extended_asked(form, base, deeds, choices, wanted, ("way", told[3])), True)
        return told

    def test_by_hand(self):
        self.assertEqual(self.ask(PING, first(PING), DEEDS, ((0,), (0,))), ("numbers", ((0,), (0,))))
        self.assertEqual(self.ask(PING, first(PING), DEEDS, ((0, 4), (0, 3))), ("numbers", ((0, 1), (0, 1))))
        self.assertEqual(self.ask(PING, first(PING), DEEDS, ((0, 2, 4), (0, 2, 3))), ("numbers", ((0, 1, 2), (0, 1, 2))))
        # The letter (0, 1) is sent behind machine 0's choice 1 and comes at machine 1 behind its choice 1, and so on.
        self.assertEqual(self.ask(PING, first(PING), DEEDS, CHOICES), ("numbers", NUMBERS))
        self.assertEqual(self.ask(PING, first(PING), DEEDS, ((0, 2), (0, 3))), ("useless", 0, 2, ((0, 2), (1, 0))))
        self.assertEqual(self.ask(PING, first(PING), DEEDS, ((0, 4), (0, 1))), ("useless", 0, 4, ((1, 1),)))
        self.assertEqual(self.ask(PING, first(PING), tuple(DEEDS), ((0, 1), (0, 2, 3)))[:3], ("useless", 1, 2))

    def test_numbers_that_are_raised_from_road_to_road(self):
        # The letter (1, 2) raises machine 1, and only by that (0, 0), which stands ahead of it, raises machine 2.
        form = (((0, ((0, "own", 0, ((1, "a"),), None),)), (0, ((0, "a", 0, ((0, "a"),), None),)), (0, ())),
                ((1, 2, "row"), (0, 1, "heap")))
        deeds = [("own", 0)] * 3 + [("come", 1, 2), ("come", 0, 0)]
        self.assertEqual(self.ask(form, first(form), deeds, ((0, 1, 2, 3), (0, 1), (0, 1))),
                         ("numbers", ((0, 1, 2, 3), (2, 3), (2, 3))))

    def test_letters_that_waited_and_that_never_come(self):
        self.assertEqual(self.ask(TALK, MIDST, MIDST_RUN, ((0, 1), (0, 1), (0, 1, 3))), ("numbers", ((0, 1), (0, 1), (0, 1, 2))))
        self.assertEqual(self.ask(TALK, first(TALK), RUN, ((0, 3), (0, 3), (0, 3))), ("numbers", ((0, 1),) * 3))
        self.assertEqual(self.ask(TALK, first(TALK), [], ((0,),) * 3), ("numbers", ((0,),) * 3))
        self.assertEqual(self.ask(ALONE, first(ALONE), [("own", 0)], ((0, 1),)), ("numbers", ((0, 1),)))

    def test_the_least_of_all_small_rows_and_the_first_useless_choice(self):
        told = {"numbers": 0, "useless": 0}
        for chance, form, base, deeds in itertools.chain(some_runs(6, 150), busy_runs(8, 350)):
            choices = some_choices(chance, form, deeds)
            if math.prod(len(own) for own in choices) > 60:
                continue
            outcome = self.ask(form, base, deeds, choices)
            told[outcome[0]] += 1
            lines = all_lines(form, base, deeds, choices)
            useless = [(m, choice) for m, own in enumerate(choices) for choice in own
                       if all(line[m] != choice for line in lines)]
            self.assertEqual(outcome[0] == "useless", bool(useless))
            if useless:
                self.assertEqual(outcome[1:3], useless[0])
            most = sum(len(own) - 1 for own in choices)
            if math.prod(math.comb(most + 1, len(own)) for own in choices) > 1500:
                continue
            right = [row for row in small_rows(choices, most) if fault(form, base, deeds, choices, row) is None]
            self.assertEqual(outcome[0] == "numbers", bool(right))
            if right:
                self.assertIn(outcome[1], right)
                for m, own in enumerate(choices):
                    for place in range(len(own)):
                        self.assertEqual(outcome[1][m][place], min(row[m][place] for row in right))
        self.assertGreater(min(told.values()), 50)

    def test_long_runs(self):
        begin = time.perf_counter()
        form, stand, deeds = crowded()
        self.ask(form, stand, deeds, tuple(tuple(range(end + 1)) for end in ends(form, deeds)))
        deeds = ping_run(200)
        every = tuple(tuple(range(101)) for _ in range(2))
        self.assertEqual(self.ask(PING, first(PING), deeds, every), ("numbers", every))
        choices = (tuple(range(0, 100, 4)), (0,) + tuple(range(2, 100, 4)))
        self.assertEqual(self.ask(PING, first(PING), deeds, choices)[:3], ("useless", 0, 4))
        last = (tuple(range(99)), tuple(range(101)))
        self.assertEqual(self.ask(PING, first(PING), deeds, last), ("useless", 1, 99, ((0, 98),)))
        self.assertLess(time.perf_counter() - begin, 10)


class NumbersAsked(unittest.TestCase):

    def wrong(self, machine, choice, numbers, choices=CHOICES, form=PING, base=None, deeds=DEEDS):
        refused(self, NoNumbers, {"machine": machine, "choice": choice}, numbers_asked, form,
                first(form) if base is None else base, deeds, choices, numbers)

    def right(self, numbers, choices=CHOICES):
        self.assertIs(unchanged(self, numbers_asked, PING, first(PING), DEEDS, choices, numbers), True)

    def test_right_ones(self):
        self.right(NUMBERS)
        self.right(((0, 1, 2, 4), (0, 1, 2, 10 ** 19)))
        self.right(((5, 7, 8, 9), (5, 7, 8, 9)))
        self.right(((0, 2, 5, 6), (1, 3, 5, 6)))

    def test_another_form(self):
        for thing in ODD_THINGS:
            self.wrong(None, None, thing)
            self.wrong(None, None, (thing, NUMBERS[1]))
            self.wrong(None, None, (NUMBERS[0], thing))
            self.wrong(None, None, (NUMBERS[0], (thing, 1, 2, 3)) if type(thing) is not int or thing < 0 else None)
        odd = [list(NUMBERS), NUMBERS + ((0,),), NUMBERS[:1], (NUMBERS[0], [0, 1, 2, 3]), (NUMBERS[0], (0, 1, 2)),
               (NUMBERS[0], (0, 1, 2, 3, 4)), put(NUMBERS, (0, 0), -1), put(NUMBERS, (1, 3), -1), put(NUMBERS, (0, 1), True),
               put(NUMBERS, (1, 0), False), put(NUMBERS, (1, 0), None), put(NUMBERS, (1, 0), "0"), put(NUMBERS, (1, 0), (0,))]
        for thing in odd:
            self.wrong(None, None, thing)

    def test_numbers_that_do_not_rise(self):
        for m in (0, 1):
            for place in (1, 2, 3):
                self.wrong(m, CHOICES[m][place], put(NUMBERS, (m, place), NUMBERS[m][place - 1]))
                self.wrong(m, CHOICES[m][place], put(NUMBERS, (m, place), 0))
        self.wrong(0, 2, ((0, 1, 1, 1), (0, 0, 0, 0)))
        self.wrong(0, 4, ((0, 1, 2, 2), (0, 0, 0, 0)))

    def test_a_letter_sent_behind_the_greatest_choice(self):
        # The letter (0, 2) is sent by event 2 of machine 0 and comes by event 2 of machine 1.
        self.wrong(0, 2, ((0, 1), (0, 1)), ((0, 2), (0, 3)))
        self.wrong(1, 1, ((0, 1), (0, 1)), ((0, 4), (0, 1)))
        self.right(((0, 1), (0, 1)), ((0, 2), (0, 2)))
        self.right(((0, 1), (0, 1)), ((0, 3), (0, 3)))

    def test_a_letter_whose_coming_has_a_lesser_number(self):
        self.wrong(1, 0, ((1, 2, 3, 4), (0, 1, 2, 3)))
        self.wrong(1, 1, ((0, 2, 3, 4), (0, 1, 2, 3)))
        self.wrong(0, 1, ((0, 1, 3, 9), (2, 3, 4, 9)))
        self.wrong(0, 2, ((1, 2, 3, 9), (1, 2, 4, 9)))

    def test_where_several_are_due_the_first_goes(self):
        self.wrong(None, None, ((0, 0, 0, 0), (0, 0, True, 0)))
        self.wrong(1, 2, ((9, 10, 11, 12), (0, 1, 1, 0)))
        self.wrong(1, 0, ((1, 2), (0, 1)), ((0, 2), (0, 3)))
        self.wrong(0, 0, ((0, 1), (1, 2)), ((0, 4), (0, 1)), PING, first(PING), [("own", 1)] + [("come", 1, 0), ("own", 1)])

    def test_letters_that_waited_are_not_asked(self):
        numbers = ((9, 10), (0, 1), (0, 1))
        self.assertIs(numbers_asked(TALK, MIDST, MIDST_RUN[:5], ((0, 1), (0, 1), (0, 1)), numbers), True)

    def test_some_numbers_somewhat_changed(self):
        dues = {}
        for chance, form, base, deeds in busy_runs(12, 600):
            wished = some_choices(chance, form, deeds)
            choices, numbers = orderly(form, base, deeds, wished)
            for _ in range(chance.randint(0, 3)):
                m = chance.randrange(len(choices))
                at = chance.randrange(len(choices[m]))
                numbers = put(numbers, (m, at), max(0, numbers[m][at] + chance.choice([-2, -1, 1, 2])))
            if chance.random() < 0.3:
                m = chance.randrange(len(choices))
                if len(choices[m]) > 1:
                    choices, numbers = put(choices, (m,), choices[m][:-1]), put(numbers, (m,), numbers[m][:-1])
            due = fault(form, base, deeds, choices, numbers)
            if due is None:
                self.assertIs(unchanged(self, numbers_asked, form, base, deeds, choices, numbers), True)
                self.assertEqual(numbers_of(form, base, deeds, choices)[0], "numbers")
            else:
                self.wrong(*due, numbers, choices, form, base, deeds)
            dues[due is None] = dues.get(due is None, 0) + 1
        self.assertGreater(min(dues.values()), 80)


def kept_orderly(form, base, deeds, wished):
    """Orderly keeping sentence by sentence: for each machine a dict of its choices with their numbers."""
    model = Model(form, base)
    number, position = [0] * len(form[0]), [0] * len(form[0])
    choices, bears = [{0: 0} for _ in form[0]], {}
    for deed in deeds:
        m = form[1][deed[1]][1] if deed[0] == "come" else deed[1]
        if deed[0] == "come" and bears.get(deed[1:], 0) > number[m]:
            number[m] = bears[deed[1:]]
            choices[m][position[m]] = number[m]
        for letter in model.do(deed)[1]:
            bears[letter] = number[m]
        position[m] += 1
        if position[m] in wished[m]:
            number[m] += 1
            choices[m][position[m]] = number[m]
    for m in range(len(number)):
        choices[m][position[m]] = max(number) + 1
    return choices


class Orderly(unittest.TestCase):

    def ask(self, form, base, deeds, wished):
        told = unchanged(self, orderly, form, base, deeds, wished)
        self.assertEqual((type(told), len(told)), (tuple, 2))
        choices, numbers = told
        for part in told:
            self.assertEqual([type(part)] + [type(own) for own in part], [tuple] * (len(form[0]) + 1))
        self.assertEqual([list(own) for own in choices], [sorted(own) for own in kept_orderly(form, base, deeds, wished)])
        self.assertEqual([dict(zip(*pair)) for pair in zip(choices, numbers)], kept_orderly(form, base, deeds, wished))
        for own, wish in zip(choices, wished):
            self.assertTrue(set(wish) <= set(own))
        self.assertIs(numbers_asked(form, base, deeds, choices, numbers), True)
        self.assertIsNone(fault(form, base, deeds, choices, numbers))
        return told

    def test_nothing_wished(self):
        self.assertEqual(self.ask(PING, first(PING), DEEDS, ((0,), (0,))), (((0, 4), (0, 3)), ((0, 1), (0, 1))))
        self.assertEqual(self.ask(PING, first(PING), [], ((0,), (0,))), (((0,), (0,)), ((1,), (1,))))

    def test_a_letter_that_bears_more_makes_the_taker_keep(self):
        # Machine 0 keeps at 1; (0, 1), sent behind it, makes machine 1 keep at 1, and no letter bears more than 1 then.
        self.assertEqual(self.ask(PING, first(PING), DEEDS, ((0, 1), (0,))), (((0, 1, 4), (0, 1, 3)), ((0, 1, 2), (0, 1, 2))))

    def test_a_letter_bears_the_number_from_ahead_of_its_deeds_wished_position(self):
        self.assertEqual(self.ask(PING, first(PING), [("own", 0), ("come", 0, 0)], ((0, 1), (0,))),
                         (((0, 1), (0, 1)), ((0, 2), (0, 2))))

    def test_a_position_that_is_a_choice_already_gets_the_number(self):
        # Road 1 is a heap: (1, 3), which bears 3, comes where machine 0 took the number 1 at its wished 1.
        deeds = [("own", 1)] * 4 + [("come", 1, 0), ("come", 1, 3)]
        self.assertEqual(self.ask(PING, first(PING), deeds, ((0, 1), (0, 1, 2, 3))),
                         (((0, 1, 2), (0, 1, 2, 3, 4)), ((0, 3, 4), (0, 1, 2, 3, 4))))
        # Machine 1 takes the number 3 at its wished 4, and (0, 3), which bears 3, too, makes it keep no more.
        deeds = [("own", 0)] * 4 + [("own", 1), ("come", 0, 0), ("come", 0, 1), ("come", 0, 2), ("come", 0, 3)]
        self.assertEqual(self.ask(PING, first(PING), deeds, ((0, 1, 2, 3), (0, 4))),
                         (((0, 1, 2, 3, 4), (0, 2, 3, 4, 5)), ((0, 1, 2, 3, 4), (0, 1, 2, 3, 4))))
        # At the end each machine keeps where it is, at 0 too where it has no events.
        self.assertEqual(self.ask(PING, first(PING), [("own", 0)], ((0, 1), (0,))), (((0, 1), (0,)), ((0, 2), (2,))))

    def test_letters_that_waited_bear_0(self):
        self.ask(TALK, MIDST, MIDST_RUN, ((0, 1, 2), (0, 1), (0, 1, 3)))
        self.ask(TALK, first(TALK), RUN, ((0, 1, 3), (0, 2), (0, 1, 3)))

    def test_one_machine(self):
        deeds = [("own", 0), ("hear", 0, "z"), ("own", 0)]
        self.assertEqual(self.ask(ALONE, first(ALONE), deeds, ((0, 1, 2),)), (((0, 1, 2, 3),), ((0, 1, 2, 3),)))
        self.assertEqual(self.ask(ALONE, first(ALONE), deeds, ((0, 1, 3),)), (((0, 1, 3),), ((0, 1, 3),)))

    def test_along_small_runs(self):
        more = 0
        for chance, form, base, deeds in itertools.chain(some_runs(10, 150), busy_runs(20, 250)):
            wished = some_choices(chance, form, deeds)
            choices, _ = self.ask(form, base, deeds, wished)
            more += any(set(own) - set(wish) - {max(own)} for own, wish in zip(choices, wished))
        self.assertGreater(more, 60)

    def test_long_runs(self):
        form, stand, deeds = crowded()
        self.ask(form, stand, deeds, tuple(tuple(range(0, end + 1, 3)) for end in ends(form, deeds)))


if __name__ == "__main__":
    unittest.main()
