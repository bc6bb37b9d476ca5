import itertools
import math
import time
import unittest

from cutstand.cuts import right_cut
from cutstand.errors import NoLine
from cutstand.lines import latest, line_asked
from cutstand.stands import first
from helper import (ALONE, MIDST, MIDST_RUN, ODD_THINGS, PING, RUN, TALK, all_lines, busy_runs, crowded, ends, journeys,
                    ping_run, refused, some_choices, some_runs, unchanged, way_goes)

# Machine 0 has four events here, machine 1 three. The letter (0, k) is sent by event k and comes by event k, (1, k) is
# sent by event k and comes by event k + 1; (0, 3) does not come.
DEEDS = ping_run(7)
CHOICES = ((0, 2), (0, 1, 3))
LINE, WAYS = (2, 1), [(1, ((0, 2),))]

# Here each choice but 0 is undone: 2 of machine 0 by the letter (1, 0), which is sent behind what (0, 2) undid.
UNDONE = ((0, 2), (0, 3))
UNDONE_WAYS = [(0, ((0, 2), (1, 0))), (1, ((0, 2),))]


def fault(form, base, deeds, choices, line, ways):
    """The fields of the refusal that is due of a line and ways of the right shape, None of right ones."""
    for m, position in enumerate(line):
        if position not in choices[m]:
            return m, position, "choice"
    letters = journeys(form, base, deeds)
    due = [taker for sender, sent, taker, came, _, _ in letters.values()
           if came is not None and came < line[taker] and sent is not None and sent >= line[sender]]
    if due:
        return min(due), line[min(due)], "letter"
    if [m for m, _ in ways] != [m for m in range(len(line)) if line[m] < max(choices[m])]:
        return None, None, "ways"
    for m, way in ways:
        choice = min(choice for choice in choices[m] if choice > line[m])
        if not way or way_goes(letters, choices, way) < len(way):
            return m, choice, "way"
        if letters[way[-1]][2] != m or letters[way[-1]][3] >= choice:
            return m, choice, "way"
    return None


class Latest(unittest.TestCase):

    def is_latest(self, form, base, deeds, choices):
        """Ask that the told line and ways are as the document has them; tell the line."""
        told = unchanged(self, latest, form, base, deeds, choices)
        self.assertEqual((type(told), len(told), type(told[0]), type(told[1])), (tuple, 2, tuple, list))
        line, ways = told
        for pair in ways:
            self.assertEqual((type(pair), len(pair), type(pair[0]), type(pair[1])), (tuple, 2, int, tuple))
        self.assertIsNone(fault(form, base, deeds, choices, line, ways))
        self.assertIs(right_cut(form, base, deeds, line), True)
        self.assertIs(unchanged(self, line_asked, form, base, deeds, choices, line, ways), True)
        return line

    def test_by_hand(self):
        self.assertEqual(latest(PING, first(PING), DEEDS, CHOICES), (LINE, WAYS))
        self.assertEqual(latest(PING, first(PING), tuple(DEEDS), CHOICES), (LINE, WAYS))
        self.assertEqual(latest(PING, first(PING), DEEDS, UNDONE), ((0, 0), UNDONE_WAYS))

    def test_all_choices_and_none_but_0(self):
        self.assertEqual(latest(PING, first(PING), DEEDS, ((0, 1, 2, 3, 4), (0, 1, 2, 3))), ((4, 3), []))
        self.assertEqual(latest(PING, first(PING), DEEDS, ((0,), (0,))), ((0, 0), []))
        self.assertEqual(latest(TALK, first(TALK), [], ((0,), (0,), (0,))), ((0, 0, 0), []))
        self.assertEqual(latest(ALONE, first(ALONE), [("own", 0)], ((0, 1),)), ((1,), []))
        self.assertEqual(latest(ALONE, first(ALONE), [("own", 0)], ((0,),)), ((0,), []))

    def test_letters_that_waited_and_that_never_come(self):
        self.assertEqual(latest(TALK, MIDST, MIDST_RUN, ((0,), (0, 1), (0, 3))), ((0, 1, 3), []))
        self.assertEqual(latest(TALK, first(TALK), RUN, ((0, 2), (0, 3), (0, 1, 3))), ((2, 3, 3), []))
        self.assertEqual(latest(TALK, first(TALK), RUN, ((0, 2), (0, 2), (0, 1, 3))), ((2, 2, 1), [(2, ((3, 1),))]))

    def test_a_choice_at_an_event_of_the_same_number(self):
        # A letter that is sent by the event of the position's number is not in it, nor one that comes so.
        self.assertEqual(latest(PING, first(PING), DEEDS, ((0, 1), (0, 1)))[0], (1, 1))
        self.assertEqual(latest(PING, first(PING), DEEDS, ((0, 1), (0, 2))), ((1, 0), [(1, ((0, 1),))]))
        self.assertEqual(latest(PING, first(PING), DEEDS, ((0, 3), (0, 2)))[0], (3, 2))
        self.assertEqual(latest(PING, first(PING), DEEDS, ((0, 4), (0, 2))), ((0, 0), [(0, ((1, 2),)), (1, ((1, 2), (0, 0)))]))

    def test_the_latest_of_all_rows(self):
        moved = 0
        for chance, form, base, deeds in itertools.chain(some_runs(12, 100), busy_runs(24, 250)):
            choices = some_choices(chance, form, deeds)
            while math.prod(len(own) for own in choices) > 2000:
                choices = some_choices(chance, form, deeds)
            line = self.is_latest(form, base, deeds, choices)
            lines = all_lines(form, base, deeds, choices)
            self.assertEqual(line, tuple(max(positions) for positions in zip(*lines)))
            self.assertIn(line, lines)
            moved += any(position < own[-1] for position, own in zip(line, choices))
        self.assertGreater(moved, 50)

    def test_long_runs(self):
        for chance, form, base, deeds in busy_runs(80, 40):
            self.is_latest(form, base, deeds, some_choices(chance, form, deeds))

    def test_more_choices_make_no_line_earlier(self):
        for chance, form, base, deeds in busy_runs(20, 150):
            fewer = some_choices(chance, form, deeds)
            more = tuple(tuple(sorted(set(own) | set(others)))
                         for own, others in zip(fewer, some_choices(chance, form, deeds)))
            ahead, behind = latest(form, base, deeds, fewer)[0], latest(form, base, deeds, more)[0]
            self.assertTrue(all(one <= other for one, other in zip(ahead, behind)))

    def test_a_told_list_is_the_askers_own(self):
        told = latest(PING, first(PING), DEEDS, UNDONE)
        told[1].clear()
        self.assertEqual(latest(PING, first(PING), DEEDS, UNDONE), ((0, 0), UNDONE_WAYS))

    def test_all_falls_back(self):
        begin = time.perf_counter()
        deeds = ping_run(200)
        choices = (tuple(range(0, 100, 4)), (0,) + tuple(range(2, 100, 4)))
        line, ways = latest(PING, first(PING), deeds, choices)
        self.assertEqual((line, [m for m, _ in ways]), ((0, 0), [0, 1]))
        self.assertIs(line_asked(PING, first(PING), deeds, choices, line, ways), True)
        form, stand, deeds = crowded()
        choices = tuple((0,) + tuple(range(1, end, 2)) for end in ends(form, deeds))
        self.is_latest(form, stand, deeds, choices)
        self.is_latest(form, stand, deeds, tuple(tuple(range(end + 1)) for end in ends(form, deeds)))
        self.assertLess(time.perf_counter() - begin, 10)


class LineAsked(unittest.TestCase):

    def wrong(self, machine, choice, word, line, ways, choices=CHOICES, form=PING, base=None, deeds=DEEDS):
        refused(self, NoLine, {"machine": machine, "choice": choice, "word": word}, line_asked, form,
                first(form) if base is None else base, deeds, choices, line, ways)

    def right(self, line, ways, choices=CHOICES):
        self.assertIs(unchanged(self, line_asked, PING, first(PING), DEEDS, choices, line, ways), True)

    def test_right_ones(self):
        self.right(LINE, WAYS)
        self.right((0, 0), UNDONE_WAYS, UNDONE)
        self.right((4, 3), [], ((0, 4), (0, 3)))
        # Any way is right, here some that go once more to and fro.
        self.right(LINE, [(1, ((0, 2), (1, 2), (0, 2)))])
        self.right((0, 0), [(0, ((0, 2), (1, 0), (0, 0), (1, 0))), (1, ((0, 2), (1, 0), (0, 1)))], UNDONE)

    def test_line(self):
        for line in ODD_THINGS:
            if line != (0, 0):
                self.wrong(None, None, "line", line, WAYS)
        for line in [(2,), (2, 1, 0), [2, 1], (2, None), (2, "1"), (2, True), (False, 1), ((2,), 1), (2, (1,)), ((2, 1),)]:
            self.wrong(None, None, "line", line, WAYS)
            self.wrong(None, None, "line", line, None)

    def test_choice(self):
        for position in (1, 3, 4, 5, -1, 10 ** 19, -(10 ** 19)):
            self.wrong(0, position, "choice", (position, 1), WAYS)
            self.wrong(0, position, "choice", (position, 9), WAYS)
        for position in (2, 4, -1, 10 ** 19):
            self.wrong(1, position, "choice", (2, position), WAYS)

    def test_letter(self):
        self.wrong(1, 1, "letter", (0, 1), WAYS)
        self.wrong(1, 3, "letter", (2, 3), WAYS)
        self.wrong(1, 3, "letter", (2, 3), [])
        self.wrong(0, 2, "letter", (2, 0), WAYS)
        self.wrong(1, 3, "letter", (0, 3), WAYS)
        self.wrong(2, 3, "letter", (2, 2, 3), [], ((0, 2), (0, 2), (0, 1, 3)), TALK, None, RUN)
        self.wrong(1, 2, "letter", (0, 2, 3), [], ((0, 2), (0, 2), (0, 1, 3)), TALK, None, RUN)

    def test_ways(self):
        odd = [tuple(WAYS), [list(WAYS[0])], [WAYS], [(1,)], [(1, ((0, 2),), 0)], [(True, ((0, 2),))], [("1", ((0, 2),))],
               [(None, ((0, 2),))], [(1, [(0, 2)])], [(1, ([0, 2],))], [(1, ((0, True),))], [(1, ((False, 2),))],
               [(1, ((0,),))], [(1, ((0, 2, 0),))], [(1, (0, 2))], [(1, None)], [(1, ((0, "2"),))], [(1, "")], {1: ((0, 2),)},
               [(1, ((0, 2), None))], [WAYS[0], None]]
        for ways in ODD_THINGS + odd:
            self.wrong(None, None, "ways", LINE, ways)
        for thing in ODD_THINGS:
            if thing != ():
                self.wrong(None, None, "ways", LINE, [(1, thing)])
            self.wrong(None, None, "ways", LINE, [thing])

    def test_ways_of_other_machines(self):
        way = WAYS[0][1]
        for machines in [(), (0,), (0, 1), (1, 1), (1, 0), (2,), (-1,), (10 ** 19,)]:
            self.wrong(None, None, "ways", LINE, [(m, way) for m in machines])
        for machines in [(), (0,), (1,), (1, 0), (0, 0), (0, 1, 1), (0, 1, 2)]:
            self.wrong(None, None, "ways", (0, 0), [(m, way) for m in machines], UNDONE)
        self.wrong(None, None, "ways", (4, 3), WAYS, ((0, 4), (0, 3)))

    def test_way(self):
        for way in [(), ((0, 1),), ((0, 3),), ((1, 1),), ((0, 2), (0, 2)), ((0, 2), (1, 2)), ((9, 9),), ((-1, 2),), ((0, -1),),
                    ((0, 10 ** 19),), ((0, 2), (1, 1)), ((0, 2), (1, 0), (0, 3)), ((0, 2), (1, 2), (0, 1))]:
            self.wrong(1, 3, "way", LINE, [(1, way)])
        for way in [(), ((0, 1),), ((1, 0),), ((0, 3),), ((0, 2), (1, 1)), ((0, 2), (1, 0), (0, 3))]:
            self.wrong(0, 2, "way", (0, 0), [(0, way), UNDONE_WAYS[1]], UNDONE)
            self.wrong(1, 3, "way", (0, 0), [UNDONE_WAYS[0], (1, way)], UNDONE)

    def test_the_next_choice(self):
        # Of 0, 1, 2, 4 machine 0 can have 2 by machine 1's 1: ways to 4 are none to the next choice of a line that is not
        # the latest one.
        choices = ((0, 1, 2, 4), (0, 1, 2))
        self.assertEqual(latest(PING, first(PING), DEEDS, choices), ((2, 2), [(0, ((1, 2),))]))
        self.right((2, 2), [(0, ((1, 2),))], choices)
        self.wrong(0, 2, "way", (1, 1), [(0, ((1, 2),)), (1, ((1, 2),))], choices)
        self.wrong(0, 2, "way", (1, 1), [(0, ((1, 2), (0, 2))), (1, ((1, 2),))], choices)

    def test_below_the_choice(self):
        # The last letter of the way has to come below the next choice, not at it.
        choices = ((0, 2, 3), (0, 1, 3))
        self.assertEqual(latest(PING, first(PING), DEEDS, choices), ((3, 3), []))
        self.wrong(0, 3, "way", (2, 1), [(0, ((0, 3),)), (1, ((0, 2),))], choices)

    def test_where_several_are_due_the_first_goes(self):
        self.wrong(None, None, "line", (9, True), None)
        self.wrong(0, 9, "choice", (9, 9), None)
        self.wrong(1, 9, "choice", (0, 9), None)
        self.wrong(1, 2, "choice", (0, 2), None)
        self.wrong(1, 1, "letter", (0, 1), None)
        self.wrong(None, None, "ways", (0, 0), [(0, ()), (1, None)])
        self.wrong(None, None, "ways", (0, 0), [(0, ()), (0, ())])
        self.wrong(0, 2, "way", (0, 0), [(0, ()), (1, ())])
        self.wrong(0, 2, "way", (0, 0), [(0, ()), (1, ((0, 2),))], UNDONE)
        self.wrong(1, 3, "way", (0, 0), [(0, ((0, 2), (1, 0))), (1, ())], UNDONE)

    def test_some_lines_and_ways_somewhat_changed(self):
        words = {}
        for chance, form, base, deeds in busy_runs(14, 700):
            choices = some_choices(chance, form, deeds)
            line, ways = latest(form, base, deeds, choices)
            if chance.random() < 0.4:
                line = chance.choice(all_lines(form, base, deeds, choices))
                ways = [(m, dict(ways).get(m, ())) for m in range(len(line)) if line[m] < choices[m][-1]]
            line, ways = list(line), [list(pair) for pair in ways]
            change(chance, form, choices, line, ways)
            line, ways = tuple(line), [tuple(pair) for pair in ways]
            due = fault(form, base, deeds, choices, line, ways)
            words[due and due[2]] = True
            if due is None:
                self.assertIs(unchanged(self, line_asked, form, base, deeds, choices, line, ways), True)
                self.assertEqual(line, latest(form, base, deeds, choices)[0])
            else:
                self.wrong(*due, line, ways, choices, form, base, deeds)
        self.assertEqual(set(words), {None, "choice", "letter", "ways", "way"})


def change(chance, form, choices, line, ways):
    """Change something of a line or its ways."""
    what = chance.randrange(6)
    if what == 0:
        m = chance.randrange(len(line))
        line[m] = chance.choice(choices[m] + (line[m] + 1,))
    elif ways and what == 1:
        ways.pop(chance.randrange(len(ways)))
    elif ways and what > 2:
        pair = chance.choice(ways)
        way = list(pair[1])
        at = chance.randint(0, len(way))
        way[at:at + chance.randint(0, 1)] = [(chance.randint(0, len(form[1])), chance.randint(0, 4))] * chance.randint(0, 1)
        pair[1] = tuple(way)


if __name__ == "__main__":
    unittest.main()
