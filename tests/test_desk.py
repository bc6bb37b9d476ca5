import random
import time
import unittest

from cutstand.desk import Desk
from cutstand.errors import CutError, NoDeed, NoForm, NoLine, NoRow, NoText, NoWorld
from cutstand.falling import fall_of
from cutstand.outside import outside_asked
from cutstand.reading import read_deed, read_world
from cutstand.stands import first
from cutstand.texts import deed_text, form_lines, world_lines
from helper import ALONE, KEEPING, PING, PLAIN, TALK, AtWorld, crowded, refused, some_form, talkative

QUESTIONS = ["states", "roads", "line", "now", "world", "outside", "run", "asked -", "asked own 0"]

# Rows of TALK with their answers; the falls and throws here lead through all that is told of them.
TALK_ROWS = [
    ("states", "0 5 99"), ("roads", "0 / 0 / 0 / 0 / 0"), ("line", "0 0 0"), ("now", "0 0 0"), ("outside", "-"), ("run", "-"),
    ("asked -", "yes"), ("throw", "base 0 0 0"), ("fall 1", "back 0 0 0"),
    ("own 0", "ok"), ("come 0.0", "ok"), ("come 2.0", "ok"), ("states", "1 6 98"),
    ("roads", "2 1:c / 1 0:d / 1 / 1 0:p / 1 0:d"), ("now", "1 1 1"), ("line", "0 0 0"), ("throw", "base 0 0 0"),
    ("keep 0", "ok"), ("line", "1 0 0"), ("tell 0 0", "told go"), ("outside", "0:go"), ("run", "own 0"),
    ("asked own 0", "yes"), ("asked own 0 / hear 2 z", "yes"), ("asked -", "no 0"), ("asked own 0 / own 0 / own 0", "no 2"),
    ("note 1 0", "ok"), ("keep 2", "ok"), ("line", "1 1 1"), ("tell 2 0", "told bee"), ("outside", "0:go 2:bee"),
    ("asked own 0", "no 1"), ("asked own 0 / come 2.0", "yes"), ("asked own 2", "no 0"), ("asked own 9", "no 0"),
    ("throw 1 0 1", "ok"), ("now", "0 1 0"), ("line", "0 1 0"), ("states", "1 6 98"), ("own 0", "ok"), ("come 4.0", "ok"),
    ("world", "states 1 5 98 / sent 2 0:a 1:c / sent 0 / sent 1 / sent 0 / sent 1 0:d / come 0.0 / own 0 / come 4.0 / kept 0 / "
              "kept 0 / kept 0 / noted / noted 0 / noted / told"),
    ("fall 0 0,1,0", "ok"), ("now", "0 1 0"), ("come 0.1", "ok"), ("keep 1", "ok"), ("tell 1 1", "told see"),
    ("own 0", "ok"), ("fall 0,1", "back 0 2 0"), ("throw", "base 0 2 0"), ("outside", "0:go 2:bee 1:see"), ("line", "0 0 0"),
    ("asked own 0 / come 2.0 / come 0.0 / come 0.1", "yes"), ("asked own 0 / come 0.0 / come 0.1", "no 2"),
    ("states", "1 5 98"), ("roads", "2 / 2 0:d 1:e / 1 / 1 0:p / 1 0:d"),
]


class Asking(unittest.TestCase):

    def answers(self, desk, rows):
        for row, due in rows:
            told = desk.say(row)
            self.assertEqual((row, told, type(told)), (row, due, str))

    def no(self, error, desk, row, **fields):
        """Ask for a refusal, and that nothing is changed by it."""
        ahead = [desk.say(question) for question in QUESTIONS]
        refused(self, error, fields, desk.say, row)
        self.assertEqual([desk.say(question) for question in QUESTIONS], ahead)


class Making(unittest.TestCase):

    def test_lines_that_are_none(self):
        for at, lines in [(0, []), (0, ["x"]), (1, ["machine 0", "x"]), (0, ["road 0 1 row"]), (2, ["machine 0", "machine 0", ""])]:
            refused(self, NoText, {"at": at}, Desk, lines)

    def test_lines_of_no_right_form(self):
        for word, number, lines in [
            ("form", 0, ["machine 0"] * 5), ("form", 0, ["machine 0"] * 2 + ["road 0 1 row"] * 9), ("road", 0, ["machine 0", "road 0 1 row"]),
            ("road", 1, ["machine 0"] * 2 + ["road 0 1 row", "road 0 0 heap"]), ("rule", 1, ["machine 0", "machine 100"]),
            ("move", 0, ["machine 0", "move 0 own 100 -"]), ("move", 1, ["machine 0", "move 0 own 1 -", "move 0 own 2 -"]),
            ("move", 1, ["machine 0", "move 0 own 1 -", "machine 0", "move 0 own 0 - 0:a", "road 0 1 row"]),
            ("rule", 0, ["machine 0"] + [f"move {n} a 0 -" for n in range(31)]),
            ("move", 0, ["machine 0", "machine 0", "move 0 own 0 - 0:a 0:a 0:a 0:a", "road 1 0 row"]),
        ]:
            refused(self, NoForm, {"word": word, "number": number}, Desk, lines)
        # That the lines are lines is asked first.
        refused(self, NoText, {"at": 1}, Desk, ["machine 100", "move"])

    def test_the_lines_stay_the_askers_own(self):
        lines = form_lines(TALK)
        desk = Desk(lines)
        self.assertEqual(lines, form_lines(TALK))
        lines.clear()
        self.assertEqual(desk.say("states"), "0 5 99")


class Rows(Asking):

    def test_talk(self):
        self.answers(Desk(form_lines(TALK)), TALK_ROWS)

    def test_the_run_that_is_told(self):
        desk = Desk(form_lines(TALK))
        self.answers(desk, TALK_ROWS)
        self.assertEqual(desk.say("asked " + desk.say("run")), "yes")

    def test_alone(self):
        self.answers(Desk(form_lines(ALONE)), [
            ("roads", "-"), ("states", "3"), ("world", "states 3 / kept 0 / noted / told"), ("own 0", "ok"), ("keep 0", "ok"),
            ("tell 0 0", "told up"), ("hear 0 z", "ok"), ("world", "states 3 / own 0 / hear 0 z / kept 0 1 / noted / told 0:0"),
            ("fall 0", "back 1"), ("throw", "base 1"), ("world", "states 4 / kept 0 / noted / told"), ("hear 0 z", "ok"),
            ("own 0", "ok"), ("note 0 0", "ok"), ("note 0 1", "ok"), ("line", "2"), ("tell 0 1", "told up"), ("outside", "0:up 0:up"),
            ("run", "own 0 / hear 0 z / own 0"), ("asked own 0 / hear 0 z / own 0", "yes"), ("asked own 0 / own 0", "no 1"),
            ("asked own 0", "no 1"), ("throw", "base 0"), ("now", "2"), ("keep 0", "ok"), ("throw", "base 2"), ("now", "0"),
        ])

    def test_a_fall_with_ways(self):
        desk = Desk(form_lines(PING))
        for row in ["own 0", "come 0.0", "come 1.0", "keep 0", "come 0.1", "keep 1"]:
            desk.say(row)
        # Machine 0 falls to 2 and had not sent more; when machine 1 falls, nothing is undone.
        self.answers(desk, [("fall 1", "back 2 2"), ("come 1.1", "ok"), ("come 0.2", "ok"), ("now", "3 3"), ("line", "2 2")])
        self.no(NoLine, desk, "fall 0 2,3 1:0.2", machine=1, choice=3, word="letter")
        self.no(NoLine, desk, "fall 0 2,2", machine=None, choice=None, word="ways")
        self.no(NoLine, desk, "fall 0 2,2 1:0.1", machine=1, choice=3, word="way")
        self.answers(desk, [("fall 0 2,2 1:0.2", "ok"), ("now", "2 2"), ("fall 0,1", "back 2 2")])

    def test_rows_that_are_none(self):
        desk = Desk(form_lines(TALK))
        self.answers(desk, TALK_ROWS)
        for row in ["", " ", "x", "state", "states ", " states", "states 0", "STATES", "roads -", "line 0", "now now", "world ", "outside 0:go",
                    "run -", "own", "own a", "own 00", "own 0 ", "own  0", "own 0 / own 0", "hear 0", "hear 0 ab", "come 0", "come 0.00", "keep",
                    "note 0", "tell 0", "tell 0 0 0", "throw ", "throw a", "throw 0 0 00", "throw 0,0,0", "fall", "fall ", "fall a", "fall 0,",
                    "fall ,", "fall 0 ", "fall 00", "fall 0  0,0,0", "fall 0 0 0", "fall 0 0,0,0 0", "fall 0 a", "asked", "asked ", "asked  -",
                    "asked - ", "asked --", "asked x", "asked own", "asked own 0 /", "asked own 0 / ", "asked / own 0", "asked own 0 /own 0",
                    "asked own 0, own 0", "asked keep 0", "asked own 0 / keep 0", "asked tell 0 0", "asked throw 0 0 0", "asked fall 0 0,0,0",
                    "asked fall 0", "asked throw", "asked own 0 / -", "asked own 0  / own 0", "told", "back 0", "base", "log", "ok", "-", "~" * 2000]:
            self.no(NoRow, desk, row)

    def test_rows_are_asked_ahead_of_all_else(self):
        # What can't be done is asked only of what is a row.
        desk = Desk(form_lines(TALK))
        self.no(NoRow, desk, "fall 9 ")
        self.no(NoRow, desk, "fall 9,a")
        self.no(NoRow, desk, "own 12345678901")
        self.no(NoRow, desk, "asked own 9 / keep 0")
        self.no(NoRow, desk, "asked own 9 / own")

    def test_deeds_that_cannot_be_done(self):
        desk = Desk(form_lines(TALK))
        self.answers(desk, TALK_ROWS[:30])
        for row in ["own 9", "hear 3 a", "come 0.0", "come 9.0", "come 1.1", "keep 9", "keep 2", "note 1 0", "note 0 9", "note 9 0",
                    "throw 0", "throw 0 0 0 0", "throw 0 1 1", "throw 1 1 1", "throw 9 9 9", "fall 9", "fall 0,0", "fall 1,0", "fall 0,9",
                    "fall 9 0,0,0", "fall 1,0 0,0,0", "come 0.9999999999", "fall 3"]:
            self.no(NoDeed, desk, row, number=0)
        for row, machine, word in [("tell 9 9", -1, "told"), ("tell 0 0", 0, "twice"), ("tell 1 0", 1, "word"), ("tell 0 1", -1, "told")]:
            self.no(NoWorld, desk, row, machine=machine, word=word)
        self.answers(desk, [("own 0", "ok"), ("own 0", "ok")])
        self.no(NoWorld, desk, "tell 0 2", machine=0, word="line")
        self.answers(desk, [("keep 0", "ok"), ("own 0", "ok")])
        self.no(NoLine, desk, "fall 0 0", machine=None, choice=None, word="line")
        self.no(NoLine, desk, "fall 0 9,9,9", machine=0, choice=9, word="choice")

    def test_two_desks_beside_one_another(self):
        one, other = Desk(form_lines(TALK)), Desk(form_lines(TALK))
        for row, due in TALK_ROWS:
            self.assertEqual(one.say(row), due)
        self.answers(other, [("states", "0 5 99"), ("outside", "-"), ("run", "-"), ("world", world_lines_row(first(TALK)))])
        self.answers(other, TALK_ROWS)

    def test_two_hundred_rows(self):
        begin = time.perf_counter()
        form = (crowded()[0][0], tuple((one, other, "heap") for one, other, _ in crowded()[0][1]))
        desk = Desk(form_lines(form))
        for n in range(35):
            for row in [f"own {n % 4}", f"come {n % 4}.{2 * (n // 4)}", "run", "world"]:
                desk.say(row)
        for m in range(4):
            desk.say(f"keep {m}")
        self.assertEqual(desk.say("line"), desk.say("now"))
        self.answers(desk, [("tell 0 0", "told word"), ("tell 1 0", "told word"), ("tell 1 1", "told word")])
        for _ in range(20):
            self.assertEqual(desk.say("asked " + desk.say("run")), "yes")
        self.assertLess(time.perf_counter() - begin, 20)


def world_lines_row(base):
    machines = len(base[0])
    return " / ".join(world_lines((base, (), ((0,),) * machines, ((),) * machines, ())))


class OverTheWhole(Asking):

    def rows_of(self, chance, at_work):
        """A row for something that may be said now, and the answer that is due of it; the world at work does it."""
        kind = chance.choice([PLAIN, PLAIN, PLAIN, KEEPING, KEEPING, KEEPING, ("tell",), ("tell",), "fall", "fall alone", ("throw",), "throw alone"])
        if kind == "throw alone":
            cut = tuple(map(max, zip(*at_work.cuts())))
            at_work.do(("throw", cut))
            return "throw", "base " + " ".join(map(str, cut))
        deed = at_work.may(chance, "fall" if kind == "fall alone" else kind)
        if deed is None:
            return None
        if deed[0] == "fall":
            line = at_work.line(deed[1])
            made = fall_of(at_work.form, at_work.world(), deed[1])
            at_work.do(made)
            if kind == "fall":
                return deed_text(made), "ok"
            return "fall " + ",".join(map(str, deed[1])), "back " + " ".join(map(str, line))
        told = at_work.do(deed)
        return deed_text(deed), "ok" if told is None else f"told {told[1]}"

    def test_walks_at_the_desk(self):
        told = falls = 0
        for seed in range(80):
            chance = random.Random(seed)
            form = talkative(some_form(chance)) if seed % 2 else some_form(chance)
            desk, at_work, outside = Desk(form_lines(form)), AtWorld(form, first(form)), []
            for _ in range(40):
                row = self.rows_of(chance, at_work)
                if row is None:
                    continue
                self.answers(desk, [row])
                falls += row[0].startswith("fall")
                if row[0].startswith("tell"):
                    outside.append((int(row[0].split(" ")[1]), row[1].split(" ")[1]))
                self.asks(desk, at_work, outside)
            told += len(outside)
        self.assertGreater(told, 60)
        self.assertGreater(falls, 100)

    def asks(self, desk, at_work, outside):
        """Ask all questions of a desk that stands where the world at work does."""
        states, roads = at_work.model().stand()
        letters = [" ".join([str(sent)] + [f"{k}:{sign}" for k, sign in waiting]) for sent, waiting in roads]
        self.answers(desk, [
            ("states", " ".join(map(str, states))), ("roads", " / ".join(letters) or "-"),
            ("line", " ".join(map(str, at_work.all_fall()))), ("now", " ".join(map(str, at_work.ends()))),
            ("outside", " ".join(f"{m}:{word}" for m, word in outside) or "-"),
        ])
        many = (len(at_work.form[0]), len(at_work.form[1]))
        self.assertEqual(read_world(desk.say("world").split(" / "), *many), at_work.world())
        run = desk.say("run")
        deeds = [] if run == "-" else [read_deed(text) for text in run.split(" / ")]
        self.assertIs(outside_asked(at_work.form, first(at_work.form), outside, deeds), True)
        self.assertEqual(desk.say("asked " + run), "yes")
        if deeds:
            self.assertEqual(desk.say("asked " + " / ".join(run.split(" / ")[:-1] or ["-"])), f"no {len(deeds) - 1}")

    def test_refused_rows_change_nothing(self):
        met = {}
        for seed in range(40):
            chance = random.Random(seed)
            form = talkative(some_form(chance))
            desk, at_work = Desk(form_lines(form)), AtWorld(form, first(form))
            for _ in range(20):
                row = self.rows_of(chance, at_work)
                if row is not None:
                    self.answers(desk, [row])
                for deed in chance.sample(at_work.deeds_to_try(chance), 3):
                    due = at_work.refusal(deed)
                    if due is not None:
                        met[due[0]] = True
                        self.no(due[0], desk, deed_text(deed), **due[1])
        self.assertEqual(set(met), {NoDeed, NoWorld})
        self.assertTrue(all(issubclass(error, CutError) for error in met))


if __name__ == "__main__":
    unittest.main()
