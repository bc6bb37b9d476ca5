import time
import unittest

from cutstand.errors import NoDeed
from cutstand.pasts import events_of, letters_of, pasts
from cutstand.stands import first
from helper import (MIDST, MIDST_RUN, RUN, RUN_EVENTS, RUN_LETTERS, RUN_PASTS, TALK, Model, crowded, refused, relation,
                    some_runs, unchanged)


class Events(unittest.TestCase):

    def test_of_a_run(self):
        for deeds in (RUN, tuple(RUN)):
            told = unchanged(self, events_of, TALK, deeds)
            self.assertEqual(told, RUN_EVENTS)
            self.assertIs(type(told), list)

    def test_of_no_deeds(self):
        self.assertEqual((events_of(TALK, []), events_of(TALK, ())), ([], []))

    def test_of_deeds_that_can_not_be_done(self):
        deeds = [("own", 2), ("come", 3, 77), ("come", 3, 77), ("own", 2), ("come", 1, 0), ("hear", 0, "a"), ("own", 1)]
        self.assertEqual(events_of(TALK, deeds), [(2, 0), (2, 1), (2, 2), (2, 3), (0, 0), (0, 1), (1, 0)])


class Letters(unittest.TestCase):

    def test_sent_come_and_never_come(self):
        for deeds in (RUN, tuple(RUN)):
            told = unchanged(self, letters_of, TALK, first(TALK), deeds)
            self.assertEqual(told, RUN_LETTERS)
            self.assertIs(type(told), dict)

    def test_letters_that_wait_at_first(self):
        waiting = {(0, 2): (None, None), (0, 3): (None, None), (2, 0): (None, None), (2, 3): (None, None),
                   (2, 4): (None, None), (3, 8): (None, None), (4, 0): (None, None), (4, 1): (None, None)}
        self.assertEqual(letters_of(TALK, MIDST, []), waiting)
        deeds = [("own", 0), ("come", 2, 3), ("own", 0), ("come", 2, 0), ("come", 0, 2)]
        come = {(2, 3): (None, 1), (2, 0): (None, 3), (0, 2): (None, 4)}
        sent = {(0, 4): (2, None), (0, 5): (2, None), (2, 6): (2, None), (4, 2): (3, None)}
        self.assertEqual(letters_of(TALK, MIDST, deeds), {**waiting, **come, **sent})

    def test_no_letters(self):
        self.assertEqual(letters_of(TALK, first(TALK), []), {})

    def test_what_is_told_is_the_askers_own(self):
        letters_of(TALK, first(TALK), RUN).clear()
        self.assertEqual(letters_of(TALK, first(TALK), RUN), RUN_LETTERS)
        pasts(TALK, first(TALK), RUN).clear()
        self.assertEqual(pasts(TALK, first(TALK), RUN), RUN_PASTS)
        events_of(TALK, RUN).clear()
        self.assertEqual(events_of(TALK, RUN), RUN_EVENTS)


class Pasts(unittest.TestCase):

    def test_of_a_run(self):
        for deeds in (RUN, tuple(RUN)):
            told = unchanged(self, pasts, TALK, first(TALK), deeds)
            self.assertEqual(told, RUN_PASTS)
            self.assertEqual({type(told), *map(type, told)}, {list, tuple})

    def test_letters_that_waited_at_first_have_no_sender(self):
        self.assertEqual(pasts(TALK, MIDST, MIDST_RUN), [(), (), (0,), (1,), (), (0, 2), (1, 3)])

    def test_of_no_deeds(self):
        self.assertEqual(pasts(TALK, MIDST, ()), [])

    def test_no_runs_are_refused_as_by_run(self):
        for call in (letters_of, pasts):
            for number in range(len(RUN) + 1):
                for thing in (None, True, (), ["own", 0], ("come", 0, 7), ("own", 3), ("come", 9, 0)):
                    deeds = RUN[:number] + [thing] + RUN[number:]
                    refused(self, NoDeed, {"number": number}, call, TALK, first(TALK), deeds)
            refused(self, NoDeed, {"number": 0}, call, TALK, first(TALK), RUN[1:])


class AgainstTheModel(unittest.TestCase):

    def test_some_runs(self):
        for _, form, stand, deeds in some_runs(16, 150):
            self.assertEqual(letters_of(form, stand, deeds), self.letters(form, stand, deeds))
            pairs = relation(form, stand, deeds)
            expected = [tuple(one for one in range(16) if (one, other) in pairs) for other in range(16)]
            self.assertEqual(pasts(form, stand, deeds), expected)

    def letters(self, form, stand, deeds):
        model = Model(form, stand)
        letters = {(road, k): [None, None] for road, (_, waiting) in enumerate(stand[1]) for k, _ in waiting}
        for number, deed in enumerate(deeds):
            if deed[0] == "come":
                letters[deed[1:]][1] = number
            for letter in model.do(deed)[1]:
                letters[letter] = [number, None]
        return {letter: tuple(numbers) for letter, numbers in letters.items()}

    def test_many_letters_and_deeds_without_long_waits(self):
        form, stand, deeds = crowded()
        begin = time.monotonic()
        letters = letters_of(form, stand, deeds)
        told = pasts(form, stand, deeds)
        self.assertLess(time.monotonic() - begin, 10)
        self.assertEqual(len(letters), 8 * 117 + 600)
        self.assertEqual(len([one for one in letters.values() if one[1] is not None]), 150)
        self.assertEqual(len(told), 200)


if __name__ == "__main__":
    unittest.main()
