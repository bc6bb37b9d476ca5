import itertools
import math
import time
import unittest

from cutstand.choices import up_to
from cutstand.errors import NoLine, NoZigzag
from cutstand.lines import latest
from cutstand.stands import first
from cutstand.wanted import extended, extended_asked
from helper import (ALONE, ODD_THINGS, PING, RUN, TALK, all_lines, busy_runs, crowded, ends, journeys, ping_run, refused,
                    some_choices, some_runs, unchanged, way_goes)

# Machine 0 has four events here, machine 1 three. The letter (0, k) is sent by event k and comes by event k, (1, k) is
# sent by event k and comes by event k + 1; (0, 3) does not come.
DEEDS = ping_run(7)
CHOICES = ((0, 1, 2, 4), (0, 1, 2, 3))


def some_wanted(chance, choices):
    """Some machines' choices, in any order."""
    machines = chance.sample(range(len(choices)), chance.randint(0, len(choices)))
    return {m: chance.choice(choices[m]) for m in machines}


def lines_with(form, base, deeds, choices, wanted):
    """All lines that have the wanted choices."""
    return [line for line in all_lines(form, base, deeds, choices) if all(line[m] == wanted[m] for m in wanted)]


def way_fault(form, base, deeds, choices, wanted, way):
    """The number of the refusal that is due of a way of letters, None of a right one."""
    letters = journeys(form, base, deeds)
    below = tuple(tuple(c for c in own if c <= wanted.get(m, c)) for m, own in enumerate(choices))
    number = way_goes(letters, below, way)
    if number < len(way) or not way:
        return number
    taker, came = letters[way[-1]][2:4]
    return None if taker in wanted and came < wanted[taker] else len(way)


class Extended(unittest.TestCase):

    def ask(self, form, base, deeds, choices, wanted):
        """Ask that what is told is so; tell which of both it is."""
        told = unchanged(self, extended, form, base, deeds, choices, wanted)
        self.assertIs(type(told), tuple)
        self.assertIs(unchanged(self, extended_asked, form, base, deeds, choices, wanted, told), True)
        if told[0] == "way":
            self.assertEqual(len(told), 2)
            self.assertIsNone(way_fault(form, base, deeds, choices, wanted, told[1]))
        else:
            self.assertEqual((told[0], len(told), type(told[1]), type(told[2])), ("line", 3, tuple, list))
            self.assertEqual({m: told[1][m] for m in wanted}, wanted)
        return told

    def test_none_wanted(self):
        told = self.ask(PING, first(PING), DEEDS, CHOICES, {})
        self.assertEqual(told, ("line", (4, 3), []))
        self.assertEqual(self.ask(PING, first(PING), DEEDS, ((0, 2), (0, 3)), {}),
                         ("line", (0, 0), [(0, ((0, 2), (1, 0))), (1, ((0, 2),))]))

    def test_one_wanted(self):
        self.assertEqual(self.ask(PING, first(PING), DEEDS, CHOICES, {0: 4}), ("line", (4, 3), []))
        self.assertEqual(self.ask(PING, first(PING), DEEDS, CHOICES, {0: 2}), ("line", (2, 2), [(1, ((0, 2),))]))
        self.assertEqual(self.ask(PING, first(PING), DEEDS, CHOICES, {1: 2}), ("line", (2, 2), [(0, ((1, 2),))]))
        self.assertEqual(self.ask(PING, first(PING), DEEDS, CHOICES, {1: 0})[:2], ("line", (1, 0)))
        self.assertEqual(self.ask(PING, first(PING), DEEDS, ((0, 2), (0, 3)), {0: 2}), ("way", ((0, 2), (1, 0))))
        self.assertEqual(self.ask(PING, first(PING), DEEDS, ((0, 2), (0, 3)), {1: 3}), ("way", ((0, 2),)))

    def test_several_wanted(self):
        self.assertEqual(self.ask(PING, first(PING), DEEDS, CHOICES, {1: 2, 0: 2}), ("line", (2, 2), []))
        self.assertEqual(self.ask(PING, first(PING), DEEDS, CHOICES, {0: 0, 1: 0}), ("line", (0, 0), []))
        self.assertEqual(self.ask(PING, first(PING), DEEDS, CHOICES, {0: 4, 1: 2}), ("way", ((1, 2),)))
        self.assertEqual(self.ask(PING, first(PING), DEEDS, CHOICES, {0: 1, 1: 3})[0], "way")
        self.assertEqual(self.ask(PING, first(PING), tuple(DEEDS), CHOICES, {0: 4, 1: 3}), ("line", (4, 3), []))

    def test_one_machine_and_no_deeds(self):
        self.assertEqual(self.ask(ALONE, first(ALONE), [("own", 0)], ((0, 1),), {0: 0}), ("line", (0,), []))
        self.assertEqual(self.ask(TALK, first(TALK), [], ((0,), (0,), (0,)), {2: 0}), ("line", (0, 0, 0), []))

    def test_against_all_lines(self):
        told = {}
        for chance, form, base, deeds in itertools.chain(some_runs(12, 100), busy_runs(24, 300)):
            choices = some_choices(chance, form, deeds)
            while math.prod(len(own) for own in choices) > 2000:
                choices = some_choices(chance, form, deeds)
            wanted = some_wanted(chance, choices)
            outcome = self.ask(form, base, deeds, choices, wanted)
            lines = lines_with(form, base, deeds, choices, wanted)
            told[outcome[0]] = told.get(outcome[0], 0) + 1
            self.assertEqual(outcome[0] == "line", bool(lines))
            if lines:
                self.assertEqual(outcome[1], tuple(max(positions) for positions in zip(*lines)))
        self.assertGreater(min(told["line"], told["way"]), 50)

    def test_a_told_list_is_the_askers_own(self):
        told = extended(PING, first(PING), DEEDS, CHOICES, {0: 2})
        told[2].clear()
        self.assertEqual(extended(PING, first(PING), DEEDS, CHOICES, {0: 2}), ("line", (2, 2), [(1, ((0, 2),))]))

    def test_long_runs(self):
        begin = time.perf_counter()
        form, stand, deeds = crowded()
        choices = tuple(tuple(range(end + 1)) for end in ends(form, deeds))
        for wanted in [{}, {0: 0}, {3: 1, 1: 40}, {m: 20 for m in range(4)}]:
            self.ask(form, stand, deeds, choices, wanted)
        deeds = ping_run(200)
        self.ask(PING, first(PING), deeds, (tuple(range(0, 100, 4)), (0,) + tuple(range(2, 100, 4))), {1: 2})
        self.assertLess(time.perf_counter() - begin, 10)


class Asked(unittest.TestCase):

    def no_zigzag(self, number, word, wanted, told, choices=CHOICES, form=PING, base=None, deeds=DEEDS):
        refused(self, NoZigzag, {"number": number, "word": word}, extended_asked, form,
                first(form) if base is None else base, deeds, choices, wanted, told)

    def no_line(self, machine, choice, word, wanted, told, choices=CHOICES):
        refused(self, NoLine, {"machine": machine, "choice": choice, "word": word}, extended_asked, PING, first(PING),
                DEEDS, choices, wanted, told)

    def right(self, wanted, told, choices=CHOICES):
        self.assertIs(unchanged(self, extended_asked, PING, first(PING), DEEDS, choices, wanted, told), True)

    def test_right_ones(self):
        self.right({}, ("line", (4, 3), []))
        self.right({0: 2}, ("line", (2, 2), [(1, ((0, 2),))]))
        self.right({0: 2, 1: 3}, ("way", ((0, 2),)))
        self.right({1: 3, 0: 2}, ("way", ((0, 2), (1, 2), (0, 2))))
        self.right({0: 2}, ("way", ((0, 2), (1, 0))), ((0, 2), (0, 3)))
        # A way need not end at the next choice behind the latest line's, only below the wanted one.
        self.right({0: 0, 1: 3}, ("way", ((0, 1),)))
        self.right({0: 0, 1: 3}, ("way", ((0, 2),)))

    def test_told(self):
        odd = [("line",), ("line", (4, 3)), ("line", (4, 3), [], None), ["line", (4, 3), []], ("Line", (4, 3), []),
               ("way", (4, 3), []), (("line",), (4, 3), []), (None, (4, 3), []), ("lines", (4, 3), []), "line", "way", ("way",),
               ["way", ((0, 2),)], ("way", [(0, 2)]), ("way", ([0, 2],)), ("way", ((0, True),)), ("way", ((False, 2),)),
               ("way", ((0, 2), None)), ("way", (0, 2)), ("way", None), ("way", "ab"), ("way", ((0, 2, 2),)), ("way", ((0,),)),
               ("way", ((0, "2"),)), ("ways", ((0, 2),)), ("line", ((0, 2),)), ((0, 2),), ("way", ((0, 2),), ())]
        for thing in ODD_THINGS + odd:
            self.no_zigzag(0, "told", {}, thing)
            self.no_zigzag(0, "told", {0: 2, 1: 3}, thing)
        for thing in ODD_THINGS:
            if thing != ():
                self.no_zigzag(0, "told", {0: 2, 1: 3}, ("way", thing))

    def test_any_things_as_line_and_ways(self):
        for thing in ODD_THINGS:
            if thing != (0, 0):
                self.no_line(None, None, "line", {}, ("line", thing, thing))
            self.no_line(None, None, "ways", {0: 2}, ("line", (2, 2), thing))

    def test_line(self):
        self.no_line(None, None, "line", {0: 2}, ("line", (2, True), None))
        self.no_line(0, 3, "choice", {0: 2}, ("line", (3, 9), None))
        # What is above the wanted choice is no choice there.
        self.no_line(0, 4, "choice", {0: 2}, ("line", (4, 3), []))
        self.no_line(1, 3, "choice", {1: 2}, ("line", (4, 3), []))
        self.no_line(1, 3, "letter", {0: 2}, ("line", (2, 3), []))
        self.no_line(0, 4, "letter", {1: 2}, ("line", (4, 2), []))
        self.no_line(None, None, "ways", {0: 2}, ("line", (2, 2), []))
        self.no_line(None, None, "ways", {0: 2}, ("line", (2, 2), ()))
        self.no_line(1, 3, "way", {0: 2}, ("line", (2, 2), [(1, ((0, 1),))]))
        self.no_line(1, 2, "way", {0: 2}, ("line", (2, 1), [(1, ((0, 2),))]))
        self.no_line(0, 2, "way", {0: 2}, ("line", (1, 1), [(0, ((0, 2),)), (1, ((0, 2),))]))

    def test_wanted(self):
        undone = ("line", (0, 0), [(0, ((0, 2), (1, 0))), (1, ((0, 2),))])
        choices = ((0, 2), (0, 3))
        self.right({}, undone, choices)
        self.no_zigzag(0, "wanted", {0: 2}, undone, choices)
        self.no_zigzag(1, "wanted", {1: 3}, undone, choices)
        self.no_zigzag(0, "wanted", {1: 3, 0: 2}, undone, choices)
        self.no_zigzag(1, "wanted", {0: 0, 1: 3}, ("line", (0, 0), [(1, ((0, 0),))]), choices)
        self.no_zigzag(1, "wanted", {1: 3, 0: 0}, ("line", (0, 0), [(1, ((0, 2),))]), choices)

    def test_way(self):
        wanted = {0: 2, 1: 3}
        self.no_zigzag(0, "way", wanted, ("way", ()))
        for letter in [(0, 1), (0, 3), (1, 1), (9, 9), (-1, 0), (0, -1), (10 ** 19, 0), (1, 3)]:
            self.no_zigzag(0, "way", wanted, ("way", (letter,)))
            self.no_zigzag(0, "way", wanted, ("way", (letter, (9, 9))))
        for letter in [(0, 2), (0, 1), (1, 0), (1, 1), (0, 3), (9, 9)]:
            self.no_zigzag(1, "way", wanted, ("way", ((0, 2), letter)))
            self.no_zigzag(1, "way", wanted, ("way", ((0, 2), letter, (1, 0))))
        self.no_zigzag(2, "way", wanted, ("way", ((0, 2), (1, 2), (0, 1))))

    def test_a_way_that_ends_elsewhere(self):
        # (1, 2) comes at machine 0 by event 3, which is not below its wanted choice 2, and machine 0 may not be wanted.
        self.no_zigzag(2, "way", {0: 2, 1: 3}, ("way", ((0, 2), (1, 2))))
        self.no_zigzag(1, "way", {}, ("way", ((1, 2),)), ((0, 4), (0, 2)))
        self.no_zigzag(1, "way", {1: 2}, ("way", ((1, 2),)), ((0, 4), (0, 2)))
        self.right({0: 4}, ("way", ((1, 2),)), ((0, 4), (0, 2)))
        self.no_zigzag(1, "way", {0: 3}, ("way", ((1, 2),)), ((0, 3, 4), (0, 2)))
        self.no_zigzag(0, "way", {}, ("way", ()))
        self.no_zigzag(1, "way", {1: 2}, ("way", ((0, 2),)), ((0, 2), (0, 2, 3)))

    def test_a_way_where_there_is_a_line(self):
        self.right({0: 2, 1: 2}, ("line", (2, 2), []))
        for way in [((0, 2),), ((1, 2),), ((0, 2), (1, 2)), ((1, 2), (0, 2))]:
            self.no_zigzag(len(way), "way", {0: 2, 1: 2}, ("way", way))

    def test_by_the_choices_up_to_the_wanted_ones(self):
        # The letter (0, 1) is sent behind machine 0's choice 1, which is its greatest one where it is wanted.
        self.right({0: 1, 1: 2}, ("way", ((0, 1),)))
        self.no_zigzag(0, "way", {0: 2, 1: 3}, ("way", ((0, 1),)))
        self.no_zigzag(0, "way", {1: 3}, ("way", ((0, 1),)))

    def test_some_ways_of_letters(self):
        numbers = {}
        for chance, form, base, deeds in busy_runs(14, 800):
            choices = some_choices(chance, form, deeds)
            wanted = some_wanted(chance, choices)
            whole = [letter for letter, trip in journeys(form, base, deeds).items() if trip[1] is not None]
            told = extended(form, base, deeds, choices, wanted)
            way = list(told[1]) if told[0] == "way" else []
            for _ in range(chance.randint(0, 2)):
                at = chance.randint(0, len(way))
                way[at:at + chance.randint(0, 1)] = chance.sample(whole, min(len(whole), 1))
            due = way_fault(form, base, deeds, choices, wanted, tuple(way))
            numbers[due] = True
            if due is None:
                self.assertIs(extended_asked(form, base, deeds, choices, wanted, ("way", tuple(way))), True)
                self.assertEqual(told[0], "way")
            else:
                self.no_zigzag(due, "way", wanted, ("way", tuple(way)), choices, form, base, deeds)
        self.assertTrue({None, 0, 1, 2} <= set(numbers))

    def test_just_one_of_both_can_be(self):
        for chance, form, base, deeds in busy_runs(14, 200):
            choices = some_choices(chance, form, deeds)
            wanted = some_wanted(chance, choices)
            told = extended(form, base, deeds, choices, wanted)
            if told[0] == "way":
                line, ways = latest(form, base, deeds, up_to(choices, wanted))
                least = min(m for m in wanted if line[m] != wanted[m])
                self.no_zigzag(least, "wanted", wanted, ("line", line, ways), choices, form, base, deeds)
            else:
                for _, way in told[2]:
                    self.no_zigzag(len(way), "way", wanted, ("way", way), choices, form, base, deeds)


if __name__ == "__main__":
    unittest.main()
