import time
import unittest

from cutstand.clocks import clocks, is_before
from cutstand.errors import NoDeed
from cutstand.pasts import events_of
from cutstand.stands import first
from helper import (MIDST, MIDST_CLOCKS, MIDST_RUN, RUN, RUN_CLOCKS, RUN_EVENTS, RUN_PASTS, TALK, crowded, refused,
                    relation, some_runs, unchanged)


class Clocks(unittest.TestCase):

    def test_of_a_run(self):
        for deeds in (RUN, tuple(RUN)):
            told = unchanged(self, clocks, TALK, first(TALK), deeds)
            self.assertEqual(told, RUN_CLOCKS)
            self.assertEqual({type(told), *map(type, told)}, {list, tuple})

    def test_letters_that_waited_at_first(self):
        self.assertEqual(clocks(TALK, MIDST, MIDST_RUN), MIDST_CLOCKS)

    def test_of_no_deeds(self):
        self.assertEqual(clocks(TALK, MIDST, ()), [])

    def test_no_runs_are_refused_as_by_run(self):
        for number in range(len(RUN) + 1):
            for thing in (None, True, (), ["own", 0], ("come", 0, 7), ("own", 3), ("come", 9, 0)):
                deeds = RUN[:number] + [thing] + RUN[number:]
                refused(self, NoDeed, {"number": number}, clocks, TALK, first(TALK), deeds)

    def test_what_is_told_is_the_askers_own(self):
        clocks(TALK, first(TALK), RUN).clear()
        self.assertEqual(clocks(TALK, first(TALK), RUN), RUN_CLOCKS)


class Before(unittest.TestCase):

    def test_of_a_run_each_way_about(self):
        for one in range(len(RUN)):
            for other in range(len(RUN)):
                told = unchanged(self, is_before, RUN_EVENTS, RUN_CLOCKS, one, other)
                self.assertIs(told, one in RUN_PASTS[other], (one, other))

    def test_none_before_itself(self):
        for one in range(len(RUN)):
            self.assertIs(is_before(RUN_EVENTS, RUN_CLOCKS, one, one), False)

    def test_neither_before_the_other(self):
        self.assertIs(is_before(RUN_EVENTS, RUN_CLOCKS, 1, 2), False)
        self.assertIs(is_before(RUN_EVENTS, RUN_CLOCKS, 2, 1), False)


class AgainstTheModel(unittest.TestCase):

    def test_some_runs(self):
        for _, form, stand, deeds in some_runs(16, 100):
            pairs = relation(form, stand, deeds)
            events, told = events_of(form, deeds), clocks(form, stand, deeds)
            for other in range(16):
                for m in range(len(form[0])):
                    known = [one for one in range(16) if (one, other) in pairs or one == other]
                    self.assertEqual(told[other][m], len([one for one in known if events[one][0] == m]))
                for one in range(16):
                    self.assertIs(is_before(events, told, one, other), (one, other) in pairs)

    def test_many_letters_and_deeds_without_long_waits(self):
        form, stand, deeds = crowded()
        begin = time.monotonic()
        told = clocks(form, stand, deeds)
        self.assertLess(time.monotonic() - begin, 10)
        self.assertEqual(len(told), 200)


if __name__ == "__main__":
    unittest.main()
