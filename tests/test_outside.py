import itertools
import time
import unittest

from cutstand.errors import NoRun
from cutstand.falling import fall_of
from cutstand.outside import outside_asked, outside_of, plain_run, told_run
from cutstand.stands import first
from helper import (ALONE, MIDST, ODD_THINGS, PING, PLAIN, RUN, RUN_EVENTS, RUN_WORDS, TALK, AtWorld, Model, busy_runs,
                    crowded, first_worlds, refused, relation, some_runs, talkative, unchanged, walk)

# What RUN did is told but for two words, machine 2 falls to its kept 1, and what lies below (3, 1, 1) is thrown away.
LOG = RUN[:1] + [("keep", 0), ("tell", 0, 0)] + RUN[1:3] + [("keep", 1), ("keep", 2), ("tell", 2, 0)] + RUN[3:8] + [
    ("keep", 0), ("tell", 0, 2), ("fall", (2,), (3, 3, 1), []), ("throw", (3, 1, 1)), ("keep", 1), ("note", 1, 0),
    ("tell", 1, 0), ("tell", 1, 1), ("come", 3, 1), ("keep", 2), ("tell", 2, 0), ("hear", 0, "z"), ("own", 1)]
LOG_WORDS = [(0, "go"), (2, "bee"), (0, "heard"), (1, "see"), (1, "abcdefgh"), (2, "cue")]


def words_of(form, base, deeds):
    """The words that a run of plain deeds tells, each deed asked whether it can be done; None where one can't."""
    model, words = Model(form, base), []
    for deed in deeds:
        if deed[0] not in PLAIN or deed[0] != "hear" and deed not in model.possible():
            return None
        (m, word), _ = model.do(deed)
        if word is not None:
            words.append((m, word))
    return words


def asked_fault(form, base, outside, deeds):
    """The number of the refusal that is due of plain deeds, None of a run that tells just the outside."""
    for number in range(len(deeds)):
        words = words_of(form, base, deeds[:number + 1])
        if words is None or words != outside[:len(words)]:
            return number
    return None if words_of(form, base, deeds) == outside else len(deeds)


def some_log(chance, at_work, many):
    """A log of a walk, and the words that its tells told."""
    log, words = [], []
    for deed in walk(chance, at_work, many, fall_of):
        log.append(deed)
        if deed[0] == "tell":
            words.append((deed[1], at_work.words()[deed[1:]]))
    return log, words


class OutsideOf(unittest.TestCase):

    def wrong(self, number, deeds, form=TALK, base=None):
        for call in (outside_of, plain_run):
            refused(self, NoRun, {"number": number}, call, form, first(form) if base is None else base, deeds)

    def test_by_hand(self):
        told = unchanged(self, outside_of, TALK, first(TALK), LOG)
        self.assertEqual((told, type(told), type(told[0])), (LOG_WORDS, list, tuple))
        for many in range(len(LOG)):
            self.assertEqual(outside_of(TALK, first(TALK), LOG[:many]), LOG_WORDS[:[d[0] for d in LOG[:many]].count("tell")])
        self.assertEqual(outside_of(TALK, MIDST, []), [])
        # What is only done is not told.
        self.assertEqual(outside_of(TALK, first(TALK), RUN), [])
        told.clear()
        self.assertEqual(outside_of(TALK, first(TALK), LOG), LOG_WORDS)

    def test_deeds_that_cannot_be_done(self):
        odd = [("own", 3), ("keep", 9), ("note", 0, 9), ("tell", 9, 9), ("tell", 0, True), ("tell", 0, 9), ("hear", 0),
               ("fall", (9,), (0, 0, 0), []), ("fall", (0,), None, None), ("fall", (2,), (9, 9, 9), []), ("throw", (9, 9, 9)),
               ("throw", None), ("come", 0, 9), ["own", 0]]
        for thing in odd + ODD_THINGS:
            for number in (0, 8, 17, len(LOG)):
                self.wrong(number, LOG[:number] + [thing] + LOG[number:])
        self.wrong(1, [("own", 0), ("own", 2), None])
        self.wrong(0, [None, None])
        self.wrong(2, [("own", 0), ("keep", 0), ("keep", 0)])
        self.wrong(3, LOG[:3] + [("tell", 0, 0)])
        self.wrong(1, LOG[:1] + [("tell", 0, 0)])
        self.wrong(15, LOG[:15] + [("fall", (2,), (3, 3, 0), [])])

    def test_each_part_of_a_log_is_wanted(self):
        # Without the keep of machine 0, what it did is not stable, and its word can't be told.
        self.wrong(1, LOG[:1] + LOG[2:])
        # Where the letter did not come, machine 1 has nothing to keep.
        self.wrong(4, LOG[:3] + LOG[4:])

    def test_words_are_told_behind_falls_and_throws(self):
        kinds, told = {}, 0
        for chance, at_work in first_worlds(120):
            form, base = at_work.form, at_work.base
            log, words = some_log(chance, at_work, 40)
            self.assertEqual(unchanged(self, outside_of, form, base, log), words)
            kinds.update((deed[0], True) for deed in log)
            told += len(words)
        self.assertEqual(set(kinds), {"own", "hear", "come", "keep", "note", "tell", "fall", "throw"})
        self.assertGreater(told, 100)

    def test_one_deed_changed(self):
        due = {}
        for chance, at_work in first_worlds(60):
            form, base = at_work.form, at_work.base
            log, _ = some_log(chance, at_work, 20)
            if not log:
                continue
            at = chance.randrange(len(log))
            log[at:at + 1] = chance.choice([[], [("tell", 0, 0)], [("keep", 0)], [("throw", (0,) * len(form[0]))]])
            again, number = AtWorld(form, base), None
            for place, deed in enumerate(log):
                # A fall that was made elsewhere may be another one here: it is taken where it is the one that is made.
                fits = again.refusal(deed) is None and (deed[0] != "fall" or deed == fall_of(form, again.world(), deed[1]))
                if not fits:
                    number = place
                    break
                again.do(deed)
            if number is not None and log[number][0] == "fall":
                continue
            due[number is None] = due.get(number is None, 0) + 1
            if number is None:
                outside_of(form, base, log)
            else:
                self.wrong(number, log, form, base)
        self.assertGreater(min(due.values()), 10)


class Runs(unittest.TestCase):

    def is_run(self, form, base, run, words):
        """Ask that a run can be done from the base and tells just the words."""
        self.assertIs(type(run), list)
        self.assertEqual(words_of(form, base, run), words)
        self.assertIs(outside_asked(form, base, words, run), True)

    def test_told_run_by_hand(self):
        worded = dict(zip([event for event in RUN_EVENTS if event not in [(1, 0), (0, 1), (2, 2)]], RUN_WORDS))
        for events in [[], [(0, 0)], [(0, 0), (2, 0)], [(0, 0), (1, 1), (2, 0)], [(0, 0), (2, 0), (0, 2)],
                       [(0, 0), (1, 1), (1, 2), (2, 0), (2, 1), (0, 2)], [(0, 0), (2, 0), (0, 2), (1, 1), (1, 2), (2, 1)]]:
            run = unchanged(self, told_run, TALK, first(TALK), RUN, events)
            self.is_run(TALK, first(TALK), run, [worded[event] for event in events])
            self.is_run(TALK, first(TALK), told_run(TALK, first(TALK), tuple(RUN), events), [worded[event] for event in events])

    def test_told_run_in_any_order_that_may_be(self):
        told = other = 0
        for chance, form, base, deeds in itertools.chain(some_runs(14, 120), busy_runs(14, 120)):
            form = talkative(form) if chance.random() < 0.5 else form
            if words_of(form, base, deeds) is None:
                continue
            at_work = AtWorld(form, base)
            at_work.deeds = list(deeds)
            words, events = at_work.words(), list(at_work.words())
            before = relation(form, base, deeds)
            row = []
            for _ in range(chance.randint(0, len(deeds))):
                free = [event for event in events if words[event] is not None and event not in row and all(
                    words[events[one]] is None or events[one] in row for one, two in before if events[two] == event)]
                if free:
                    row.append(chance.choice(free))
            run = unchanged(self, told_run, form, base, deeds, row)
            self.is_run(form, base, run, [(event[0], words[event]) for event in row])
            told += len(row)
            other += row != [event for event in events if event in row]
        self.assertGreater(told, 400)
        self.assertGreater(other, 30)

    def test_plain_run_by_hand(self):
        run = unchanged(self, plain_run, TALK, first(TALK), LOG)
        self.is_run(TALK, first(TALK), run, LOG_WORDS)
        self.assertEqual(plain_run(TALK, MIDST, []), [])
        self.assertEqual(plain_run(TALK, first(TALK), RUN), [])
        self.assertEqual(plain_run(TALK, first(TALK), LOG[:4]), [("own", 0)])
        run.clear()
        self.is_run(TALK, first(TALK), plain_run(TALK, first(TALK), LOG), LOG_WORDS)
        alone = [("own", 0), ("keep", 0), ("tell", 0, 0), ("throw", (1,)), ("hear", 0, "z"), ("fall", (0,), (0,), []),
                 ("hear", 0, "z"), ("own", 0), ("keep", 0), ("tell", 0, 1)]
        self.is_run(ALONE, first(ALONE), plain_run(ALONE, first(ALONE), alone), [(0, "up"), (0, "up")])

    def test_a_world_with_falls_tells_what_some_run_without_falls_tells(self):
        met = {"fall": 0, "throw": 0}
        for chance, at_work in first_worlds(150):
            form, base = at_work.form, at_work.base
            log, words = some_log(chance, at_work, 50)
            self.is_run(form, base, unchanged(self, plain_run, form, base, log), words)
            self.assertEqual(outside_of(form, base, log), words)
            for kind in met:
                met[kind] += bool(words) and kind in [deed[0] for deed in log]
        self.assertGreater(min(met.values()), 30)

    def test_long_logs(self):
        begin = time.perf_counter()
        form, stand, deeds = crowded()
        deeds, counts, events = deeds[:80], [0] * 4, []
        for deed in deeds:
            m = form[1][deed[1]][1] if deed[0] == "come" else deed[1]
            events.append(("tell", m, counts[m]))
            counts[m] += 1
        log = deeds + [("keep", m) for m in range(4)] + events + [("throw", tuple(counts)), ("own", 0), ("keep", 0), ("tell", 0, 0)]
        words = outside_of(form, stand, log)
        self.assertEqual(len(words), 81)
        self.is_run(form, stand, plain_run(form, stand, log), words)
        self.assertLess(time.perf_counter() - begin, 10)


class Asked(unittest.TestCase):

    def wrong(self, number, outside, deeds, form=TALK, base=None):
        refused(self, NoRun, {"number": number}, outside_asked, form, first(form) if base is None else base, outside, deeds)

    def right(self, outside, deeds, form=TALK, base=None):
        base = first(form) if base is None else base
        self.assertIs(unchanged(self, outside_asked, form, base, outside, deeds), True)

    def test_right_ones(self):
        self.right(RUN_WORDS, RUN)
        self.right([], [])
        self.right([], [("hear", 0, "z")] * 3)
        self.right([], ping_deeds(), PING)
        self.right([(0, "ee")], [("come", 4, 0), ("hear", 0, "e")], TALK, MIDST)

    def test_no_deed(self):
        self.wrong(0, RUN_WORDS, [("own", 2)] + RUN)
        for thing in ODD_THINGS + [("own", 3), ("keep", 0), ("tell", 0, 0), ("fall", (0,), (0, 0, 0), []), ["own", 0],
                                   ("throw", (0, 0, 0)), ("own", True), ("come", 0, 9), ("note", 0, 0)]:
            for number in (0, 4, len(RUN)):
                self.wrong(number, RUN_WORDS, RUN[:number] + [thing] + RUN[number:])

    def test_another_word(self):
        # The words are told by the deeds 0, 2, 3, 4, 5 and 7.
        for place, number in enumerate([0, 2, 3, 4, 5, 7]):
            other = list(RUN_WORDS)
            other[place] = (RUN_WORDS[place][0], "other")
            self.wrong(number, other, RUN)
            other[place] = ((RUN_WORDS[place][0] + 1) % 3, RUN_WORDS[place][1])
            self.wrong(number, other, RUN)
            for text in ["", "GO", "go ", "a b~", RUN_WORDS[place][1] + "a"]:
                other[place] = (RUN_WORDS[place][0], text)
                self.wrong(number, other, RUN)
            self.wrong(number, RUN_WORDS[:place], RUN)
            self.wrong(number, RUN_WORDS[:place] + RUN_WORDS[place + 1:], RUN)
        self.wrong(2, RUN_WORDS[:1] + [RUN_WORDS[2], RUN_WORDS[1]] + RUN_WORDS[3:], RUN)

    def test_words_left(self):
        self.wrong(len(RUN), RUN_WORDS + [(0, "go")], RUN)
        self.wrong(len(RUN), RUN_WORDS + [(9, ""), (0, "x")], RUN)
        self.wrong(0, [(0, "go")], [])
        self.wrong(2, RUN_WORDS, RUN[:2])
        self.wrong(7, RUN_WORDS, RUN[:7])

    def test_where_several_are_due_the_least_number_goes(self):
        self.wrong(0, [(0, "no")], [("own", 0), None])
        self.wrong(0, [(0, "go")], [None, ("own", 0)])
        self.wrong(1, [(0, "go"), (0, "x")], [("own", 0), None])
        self.wrong(2, [(0, "go")], [("own", 0), ("own", 0), ("own", 0), None])
        self.wrong(3, [(0, "go"), (0, "go"), (0, "go")], [("own", 0), ("own", 0), ("own", 0)])

    def test_some_runs_somewhat_changed(self):
        dues = {}
        for chance, form, base, deeds in some_runs(8, 500):
            outside = words_of(form, base, deeds)
            what = chance.randrange(5)
            if what == 1:
                deeds.pop(chance.randrange(len(deeds)))
            elif what == 2 and outside:
                outside.pop(chance.randrange(len(outside)))
            elif what == 3:
                outside.insert(chance.randint(0, len(outside)), (chance.randrange(len(form[0])), chance.choice(["w", "word"])))
            elif what == 4:
                at = chance.randrange(len(deeds))
                deeds[at] = chance.choice([("own", 0), ("hear", 0, "b"), ("keep", 0), ("come", 0, 0)])
            due = asked_fault(form, base, outside, deeds)
            kind = "right" if due is None else "end" if due == len(deeds) else "at"
            dues[kind] = dues.get(kind, 0) + 1
            if due is None:
                self.right(outside, deeds, form, base)
            else:
                self.wrong(due, outside, deeds, form, base)
        self.assertGreater(min(dues.get(kind, 0) for kind in ("right", "end", "at")), 30)

    def test_long_runs(self):
        form, stand, deeds = crowded()
        words = words_of(form, stand, deeds[:100])
        self.right(words, deeds[:100], form, stand)
        self.wrong(100, words, deeds, form, stand)


def ping_deeds():
    return [("own", 0), ("come", 0, 0), ("come", 1, 0)]


if __name__ == "__main__":
    unittest.main()
