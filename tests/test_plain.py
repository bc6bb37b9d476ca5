import time
import unittest

from cutstand.errors import NoDeed
from cutstand.forms import right_form
from cutstand.plain import can, done, machine_of, run
from cutstand.stands import first, right_stand
from helper import (ALONE, MIDST, ODD_THINGS, RUN, RUN_END, RUN_WORDS, TALK, Model, crowded, put, refused, some_runs,
                    unchanged)

# What is no plain deed of TALK at MIDST, each close to one.
NO_DEEDS = ODD_THINGS + [
    ["own", 0], ("own", 0, 0), ("own", 0, "a"), ("own",), ("own", -1), ("own", 3), ("own", True), ("own", False),
    ("own", None), ("own", "0"), ("own", (0,)), ("Own", 0), ("owns", 0), ("hear", 0), ("come", 0),
    ["hear", 0, "a"], ("hear", 0, "a", 0), ("hear", 3, "a"), ("hear", -1, "a"), ("hear", True, "a"), ("hear", False, "a"),
    ("hear", 0, ""), ("hear", 0, "A"), ("hear", 0, "ab"), ("hear", 0, "own"), ("hear", 0, None), ("hear", 0, 0),
    ("hear", 0, ("a",)), ("hear", "a", 0), ("hears", 0, "a"), ("hear", None, "a"),
    ["come", 0, 2], ("come", 0, 2, 0), ("come", -1, 2), ("come", 5, 0), ("come", False, 2), ("come", 2, False),
    ("come", 2, "0"), ("come", 2, None), ("come", "2", 0), ("come", 2, (0,)), ("come", True, 0), ("came", 0, 2),
    ("keep", 0), ("note", 0, 0), ("tell", 0, 0), ("throw", (0, 0, 0)), ("begin", 0), ("mark", 0), (None, 0), (0, 0, 0),
    (("own",), 0), (True, 0), "own", ("own", 10 ** 19), ("come", 10 ** 19, 0), ("come", 0, -(10 ** 19)),
]


class Machines(unittest.TestCase):

    def test_of_each_sort_of_deed(self):
        for m in range(3):
            self.assertEqual(machine_of(TALK, ("own", m)), m)
            self.assertEqual(machine_of(TALK, ("hear", m, "z")), m)
        self.assertEqual([machine_of(TALK, ("come", road, 7)) for road in range(5)], [1, 0, 2, 2, 0])


class Can(unittest.TestCase):

    def told(self, answer, form, stand, thing):
        self.assertIs(unchanged(self, can, form, stand, thing), answer, thing)

    def test_own_with_and_without_a_move(self):
        self.told(True, TALK, first(TALK), ("own", 0))
        self.told(True, TALK, first(TALK), ("own", 1))
        self.told(False, TALK, first(TALK), ("own", 2))
        self.told(True, TALK, MIDST, ("own", 2))
        self.told(False, TALK, MIDST, ("own", 1))
        self.told(False, ALONE, ((4,), ()), ("own", 0))

    def test_hear_always(self):
        for m in range(3):
            for sign in "abcdefghijklmnopqrstuvwxyz":
                self.told(True, TALK, MIDST, ("hear", m, sign))

    def test_come_of_a_row(self):
        self.told(True, TALK, MIDST, ("come", 0, 2))
        self.told(True, TALK, MIDST, ("come", 4, 0))
        for road, k in ((0, 3), (0, 1), (0, 0), (0, 4), (0, -1), (1, 0), (1, 1), (4, 1), (4, 2)):
            self.told(False, TALK, MIDST, ("come", road, k))

    def test_come_of_a_heap(self):
        for road, k in ((2, 0), (2, 3), (2, 4), (3, 8)):
            self.told(True, TALK, MIDST, ("come", road, k))
        for road, k in ((2, 1), (2, 2), (2, 5), (2, 6), (2, -1), (3, 0), (3, 7), (3, 9)):
            self.told(False, TALK, MIDST, ("come", road, k))

    def test_come_of_truths(self):
        row = put(MIDST, (1, 1), (2, ((0, "a"), (1, "b"))))
        self.told(True, TALK, row, ("come", 1, 0))
        self.told(False, TALK, row, ("come", 1, False))
        self.told(False, TALK, row, ("come", True, 0))
        heap = put(MIDST, (1, 2), (2, ((1, "b"),)))
        self.told(True, TALK, heap, ("come", 2, 1))
        self.told(False, TALK, heap, ("come", 2, True))

    def test_what_is_no_plain_deed(self):
        for thing in NO_DEEDS:
            self.told(False, TALK, MIDST, thing)

    def test_a_form_without_roads(self):
        self.told(False, ALONE, first(ALONE), ("come", 0, 0))
        self.told(True, ALONE, first(ALONE), ("own", 0))
        self.told(False, ALONE, first(ALONE), ("own", 1))


class Done(unittest.TestCase):

    def test_own_sends_and_tells(self):
        stand, told = unchanged(self, done, TALK, first(TALK), ("own", 0))
        self.assertEqual(stand[0], (1, 5, 99))
        self.assertEqual(stand[1], ((2, ((0, "a"), (1, "c"))), (0, ()), (1, ((0, "b"),)), (0, ()), (0, ())))
        self.assertEqual(told, (0, "go"))

    def test_own_without_sends_or_word(self):
        self.assertEqual(done(TALK, MIDST, ("own", 0)), (put(MIDST, (0, 0), 0), None))

    def test_sends_go_behind_all_that_wait(self):
        stand, told = done(TALK, put(MIDST, (0, 1), 5), ("own", 1))
        self.assertEqual(stand[1][3], (12, ((8, "q"), (9, "q"), (10, "r"), (11, "s"))))
        self.assertEqual((stand[0], stand[1][:3], stand[1][4]), ((1, 5, 98), MIDST[1][:3], MIDST[1][4]))
        self.assertEqual(told, (1, "abcdefgh"))

    def test_hear_with_and_without_a_move(self):
        self.assertEqual(done(TALK, MIDST, ("hear", 0, "e")), (MIDST, (0, "ee")))
        self.assertEqual(done(TALK, MIDST, ("hear", 0, "f")), (MIDST, None))
        stand, told = done(TALK, first(TALK), ("hear", 0, "d"))
        self.assertEqual((stand[0], stand[1][0], told), ((7, 5, 99), (1, ((0, "x"),)), (0, "heard")))

    def test_a_letter_that_came_waits_no_more(self):
        stand, told = done(TALK, MIDST, ("come", 2, 3))
        self.assertEqual(stand, put(put(MIDST, (1, 2), (6, ((0, "b"), (4, "b")))), (0, 2), 99))
        self.assertEqual(told, (2, "cue"))
        self.assertEqual(done(TALK, MIDST, ("come", 2, 4)), (put(MIDST, (1, 2), (6, ((0, "b"), (3, "q")))), None))
        self.assertEqual(done(TALK, MIDST, ("come", 0, 2)), (put(MIDST, (1, 0), (4, ((3, "c"),))), None))

    def test_a_coming_that_sends(self):
        stand, told = done(TALK, put(MIDST, (0, 0), 0), ("come", 4, 0))
        self.assertEqual(stand[0], (7, 6, 98))
        self.assertEqual(stand[1][0], (5, ((2, "a"), (3, "c"), (4, "x"))))
        self.assertEqual(stand[1][4], (2, ((1, "z"),)))
        self.assertEqual(told, (0, "heard"))

    def test_kinds(self):
        for deed in (("own", 0), ("hear", 0, "e"), ("come", 2, 0)):
            told = done(TALK, MIDST, deed)
            self.assertIs(type(told), tuple)
            self.assertIs(right_stand(TALK, told[0]), True)

    def test_what_can_not_be_done(self):
        for thing in NO_DEEDS + [("own", 1), ("come", 0, 3), ("come", 1, 0), ("come", 2, 1), ("come", 4, 1)]:
            refused(self, NoDeed, {"number": 0}, done, TALK, MIDST, thing)


class Runs(unittest.TestCase):

    def test_of_a_list_and_of_a_tuple(self):
        for deeds in (RUN, tuple(RUN)):
            told = unchanged(self, run, TALK, first(TALK), deeds)
            self.assertEqual(told, (RUN_END, RUN_WORDS))
            self.assertEqual((type(told), type(told[1])), (tuple, list))

    def test_of_no_deeds(self):
        for deeds in ([], ()):
            self.assertEqual(run(TALK, MIDST, deeds), (MIDST, []))

    def test_the_first_that_can_not_be_done(self):
        for number in range(len(RUN) + 1):
            for thing in (None, True, ["own", 0], ("come", 0, 7), ("own", 3), (("own", 0),)):
                deeds = RUN[:number] + [thing] + RUN[number:] + [None]
                refused(self, NoDeed, {"number": number}, run, TALK, first(TALK), deeds)
                refused(self, NoDeed, {"number": number}, run, TALK, first(TALK), tuple(deeds))

    def test_each_where_its_turn_comes(self):
        refused(self, NoDeed, {"number": 0}, run, TALK, first(TALK), RUN[1:])
        refused(self, NoDeed, {"number": 2}, run, TALK, first(TALK), [RUN[0], RUN[1], RUN[1]])
        refused(self, NoDeed, {"number": 1}, run, TALK, first(TALK), [RUN[0], RUN[3]])
        refused(self, NoDeed, {"number": 1}, run, TALK, first(TALK), [("hear", 0, "d"), ("own", 0)])

    def test_any_things_as_deeds(self):
        for thing in NO_DEEDS:
            refused(self, NoDeed, {"number": 1}, run, TALK, MIDST, [("own", 0), thing])

    def test_told_words_are_the_askers_own(self):
        run(TALK, first(TALK), RUN)[1].clear()
        self.assertEqual(run(TALK, first(TALK), RUN), (RUN_END, RUN_WORDS))


class AgainstTheModel(unittest.TestCase):

    def test_some_runs(self):
        for _, form, stand, deeds in some_runs(12, 150):
            self.assertIs(right_form(form), True)
            self.assertIs(right_stand(form, stand), True)
            self.walk(form, stand, deeds)

    def walk(self, form, stand, deeds):
        model, words, now = Model(form, stand), [], stand
        for deed in deeds:
            asked = [("own", m) for m in range(len(form[0]))]
            for road, (sent, letters) in enumerate(now[1]):
                asked += [("come", road, k) for k in [-1, 0, sent, sent - 1] + [letter[0] for letter in letters]]
            possible = model.possible()
            for thing in asked + possible:
                self.assertIs(can(form, now, thing), thing in possible, (form, now, thing))
            told = model.do(deed)[0]
            now, word = done(form, now, deed)
            self.assertEqual(now, model.stand())
            self.assertEqual(word, told if told[1] is not None else None)
            words += [told] if told[1] is not None else []
        self.assertEqual(run(form, stand, deeds), (now, words))

    def test_neighbours_turned_about(self):
        turned = 0
        for _, form, stand, deeds in some_runs(15, 60):
            for n in range(len(deeds) - 1):
                one, other = deeds[n], deeds[n + 1]
                model = Model(form, stand)
                sent = [model.do(deed)[1] for deed in deeds[:n + 1]][-1]
                if machine_of(form, one) == machine_of(form, other) or other[0] == "come" and other[1:] in sent:
                    continue
                turned += 1
                about = deeds[:n] + [other, one] + deeds[n + 2:]
                end, words = run(form, stand, deeds)
                about_end, about_words = run(form, stand, about)
                self.assertEqual(about_end, end)
                for m in range(len(form[0])):
                    self.assertEqual([told for told in about_words if told[0] == m],
                                     [told for told in words if told[0] == m])
        self.assertGreater(turned, 100)

    def test_many_letters_and_deeds_without_long_waits(self):
        form, stand, deeds = crowded()
        self.assertEqual(len(deeds), 200)
        self.assertIs(right_form(form), True)
        begin = time.monotonic()
        self.assertIs(right_stand(form, stand), True)
        end, words = run(form, stand, deeds)
        self.assertLess(time.monotonic() - begin, 10)
        self.assertEqual(len(words), 200)
        self.assertEqual(sum(road[0] for road in end[1]), 8 * 10 ** 9 + 600)
        self.assertEqual(sum(len(road[1]) for road in end[1]), 8 * 117 + 600 - 150)


if __name__ == "__main__":
    unittest.main()
