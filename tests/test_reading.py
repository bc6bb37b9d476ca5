import random
import re
import unittest

from cutstand.errors import NoText
from cutstand.falling import fall_of
from cutstand.reading import read_deed, read_form, read_stand, read_world
from cutstand.stands import first
from cutstand.texts import deed_text, form_lines, stand_lines, world_lines
from cutstand.worlds import first_world
from helper import ALONE, MIDST, RUN, TALK, crowded, refused, some_form, some_stand, unchanged, world_walks

# The lines and words as the document tells them, each written as a whole pattern.
N, LONG = "(0|[1-9][0-9]{0,8})", "(0|[1-9][0-9]{0,9})"
LETTER = rf"{N}\.{LONG}"
MACHINE, ROAD = f"machine {N}", f"road {N} {N} (row|heap)"
MOVE = f"move {N} (own|[a-z]) {N} ([a-z]{{1,8}}|-)( {N}:[a-z])*"
SENT, KEPT, NOTED, TOLD = f"sent {LONG}( {LONG}:[a-z])*", f"kept( {N})*", f"noted( {N})*", f"told( {N}:{N})*"
PLAIN_LINE = f"own {N}|hear {N} [a-z]|come {LETTER}"
WAY = f"{N}:{LETTER}(,{LETTER})*"
DEED_WORDS = {
    "own": ([N], None), "hear": ([N, "[a-z]"], None), "come": ([LETTER], None), "keep": ([N], None),
    "note": ([N, N], None), "tell": ([N, N], None), "throw": ([N], N), "fall": ([f"{N}(,{N})*"] * 2, WAY),
}


def is_all(pattern, text):
    return re.fullmatch(pattern, text) is not None


def form_fault(lines):
    for at, line in enumerate(lines):
        if at == 0:
            fits = is_all(MACHINE, line)
        elif lines[at - 1].startswith("road"):
            fits = is_all(ROAD, line)
        else:
            fits = is_all(f"{MACHINE}|{MOVE}|{ROAD}", line)
        if not fits:
            return at
    return None if lines else 0


def row_fault(lines, patterns):
    """Where lines are not of these patterns, one for each line."""
    for at, pattern in enumerate(patterns):
        if at == len(lines) or not is_all(pattern, lines[at]):
            return at
    return len(patterns) if len(lines) > len(patterns) else None


def stand_patterns(machines, roads):
    return ["states" + f" {N}" * machines] + [SENT] * roads


def stand_fault(lines, machines, roads):
    return row_fault(lines, stand_patterns(machines, roads))


def world_fault(lines, machines, roads):
    patterns = stand_patterns(machines, roads)
    while len(patterns) < len(lines) and is_all(PLAIN_LINE, lines[len(patterns)]):
        patterns.append(PLAIN_LINE)
    return row_fault(lines, patterns + [KEPT] * machines + [NOTED] * machines + [TOLD])


def deed_fault(text):
    words = text.split(" ")
    if words[0] not in DEED_WORDS:
        return 0
    each, further = DEED_WORDS[words[0]]
    for place, word in enumerate(words[1:], start=1):
        pattern = each[place - 1] if place <= len(each) else further
        if pattern is None or not is_all(pattern, word):
            return place
    return len(words) if len(words) <= len(each) else None


def bent(chance, text):
    """A text with a sign more, less or another one, or with a word more or less."""
    at = chance.randint(0, len(text))
    if chance.random() < 0.3:
        words = text.split(" ")
        at = chance.randint(0, len(words))
        words[at:at + chance.randint(0, 1)] = [chance.choice(["0", "7", "a", "own", "-", "0:a", "1:0", "2.1", "", "1,2", "01",
                                                              "row", "1234567890", "12345678901", "word"])] * chance.randint(0, 1)
        return " ".join(words)
    return text[:at] + chance.choice(["", " ", "0", "1", "9", "a", "z", "A", ":", ".", ",", "-", "/", "{", "000000000"]) + text[
        at + chance.randint(0, 1):]


def bent_lines(chance, lines):
    """Lines with one changed, left out, told twice or put elsewhere."""
    lines, what = list(lines), chance.randrange(6)
    at = chance.randrange(len(lines))
    if what == 0:
        lines.pop(at)
    elif what == 1:
        lines.insert(chance.randint(0, len(lines)), lines[at])
    elif what == 2:
        lines.insert(chance.randrange(len(lines)), lines.pop(at))
    elif what == 3:
        lines = lines[:at]
    else:
        lines[at] = bent(chance, lines[at])
    return lines


class Asking(unittest.TestCase):

    def no(self, at, call, *things):
        refused(self, NoText, {"at": at}, call, *things)

    def same(self, call, lines, thing, *many):
        """Ask that what was written is read as the same again, tuples and lists as such."""
        told = unchanged(self, call, lines, *many)
        self.assertEqual(repr(told), repr(thing))

    def is_due(self, due, write, call, lines, *many):
        """Ask for the refusal that is due; where none is, for the lines of what is read."""
        if due is None:
            self.assertEqual(write(unchanged(self, call, lines, *many)), lines)
        else:
            self.no(due, call, lines, *many)


class Forms(Asking):

    def test_what_was_written(self):
        for form in [TALK, ALONE, crowded()[0], (((0, ()),), ())] + [some_form(random.Random(seed)) for seed in range(60)]:
            self.same(read_form, form_lines(form), form)

    def test_what_is_no_right_form(self):
        # More machines, roads, moves and sends than a form has, numbers that are none of its own.
        self.same(read_form, ["machine 123456789"] * 6 + ["move 100 own 999 - 9:a 9:b 9:c 9:d"] * 2 + ["road 7 7 row"] * 9,
                  (((123456789, ()),) * 5 + ((123456789, ((100, "own", 999, ((9, "a"), (9, "b"), (9, "c"), (9, "d")), None),) * 2),),
                   ((7, 7, "row"),) * 9))

    def test_lines_in_their_places(self):
        self.no(0, read_form, [])
        self.no(0, read_form, ["move 0 own 0 -", "machine 0"])
        self.no(0, read_form, ["road 0 1 row", "machine 0"])
        self.no(0, read_form, [""])
        self.no(1, read_form, ["machine 0", ""])
        self.no(2, read_form, ["machine 0", "road 0 1 row", "machine 0"])
        self.no(2, read_form, ["machine 0", "road 0 1 row", "move 0 own 0 -", "x"])
        self.no(1, read_form, ["machine 0", "states 0"])

    def test_words(self):
        for line in ["machine", "machine ", "machine 0 ", " machine 0", "machine  0", "machine 0 0", "machine 00", "machine 01",
                     "machine 1234567890", "machine -1", "machine a", "Machine 0", "machines 0", "machine 0.", "machine +1"]:
            self.no(0, read_form, [line])
            self.no(3, read_form, ["machine 0", "move 0 own 1 go 0:a", "machine 999999999", line])
        for line in ["move", "move 0", "move 0 own", "move 0 own 0", "move 0 own 0 ", "move 0 own 0 abcdefghi", "move 0 own 0 A",
                     "move 0 own 0 a1", "move 0 ow 0 a", "move 0 ab 0 a", "move 0 - 0 a", "move 0 1 0 a", "move 0 A 0 a",
                     "move a own 0 -", "move 0 own a -", "move 00 own 0 -", "move 0 own 00 -", "move 0 own 0 - 0", "move 0 own 0 - 0:",
                     "move 0 own 0 - :a", "move 0 own 0 - 0:ab", "move 0 own 0 - 0:a:b", "move 0 own 0 - 0:A", "move 0 own 0 - 00:a",
                     "move 0 own 0 - 0:a ", "move 0 own 0 - 0:a  0:a", "move 0 own 0 - 0:a b", "move 0 own 0 - 1234567890:a",
                     "move 0 own 0 -- 0:a", "move 0 own 0 0:a", "move 1234567890 own 0 -", "moves 0 own 0 -", "move 0 own 0 - 0.a"]:
            self.no(1, read_form, ["machine 0", line])
        for line in ["road", "road 0", "road 0 1", "road 0 1 ", "road 0 1 rows", "road 0 1 row ", "road 0 1 row row", "road a 1 row",
                     "road 0 01 row", "road 0 1 HEAP", "road 0  1 row", "road 0 1 0", "road 1234567890 0 row", "roads 0 1 row"]:
            self.no(2, read_form, ["machine 0", "road 0 1 heap", line, "x"])
            self.no(1, read_form, ["machine 0", line])

    def test_some_lines_somewhat_changed(self):
        dues = {}
        for seed in range(1500):
            chance = random.Random(seed)
            lines = bent_lines(chance, form_lines(some_form(chance)))
            due = form_fault(lines)
            dues[due is None] = dues.get(due is None, 0) + 1
            self.is_due(due, form_lines, read_form, lines)
        self.assertGreater(min(dues.values()), 300)


class Stands(Asking):

    def test_what_was_written(self):
        self.same(read_stand, stand_lines(MIDST), MIDST, 3, 5)
        self.same(read_stand, stand_lines(first(ALONE)), first(ALONE), 1, 0)
        self.same(read_stand, stand_lines(crowded()[1]), crowded()[1], 4, 8)
        for seed in range(60):
            chance = random.Random(seed)
            form = some_form(chance)
            stand = some_stand(chance, form)
            self.same(read_stand, stand_lines(stand), stand, len(form[0]), len(form[1]))

    def test_what_is_no_right_stand(self):
        self.same(read_stand, ["states 100 999999999", "sent 0 9999999999:a 3:b 3:b"],
                  ((100, 999999999), ((0, ((9999999999, "a"), (3, "b"), (3, "b"))),)), 2, 1)

    def test_lines_in_their_places(self):
        lines = stand_lines(MIDST)
        for many in range(len(lines)):
            self.no(many, read_stand, lines[:many], 3, 5)
        self.no(6, read_stand, lines + ["sent 0"], 3, 5)
        self.no(6, read_stand, lines + ["", ""], 3, 5)
        self.no(0, read_stand, lines[1:] + lines[:1], 3, 5)
        self.no(1, read_stand, lines[:1] + lines, 3, 5)
        self.no(5, read_stand, lines, 3, 4)
        self.no(6, read_stand, lines, 3, 6)
        self.no(0, read_stand, lines, 2, 5)
        self.no(0, read_stand, lines, 4, 5)
        self.no(1, read_stand, ["states 0", "sent 0"], 1, 0)

    def test_words(self):
        for line in ["states", "states 0", "states 0 0 0", "states 0 00", "states 0 0 ", "states  0 0", " states 0 0", "states 0 a",
                     "states 0 1234567890", "state 0 0", "states 0,0"]:
            self.no(0, read_stand, [line, "sent"], 2, 1)
        for line in ["sent", "sent ", "sent a", "sent 00", "sent 01 0:a", "sent 12345678901", "sent 1 0", "sent 1 0:", "sent 1 :a",
                     "sent 1 0:A", "sent 1 0:ab", "sent 1 00:a", "sent 1 0:a ", "sent 1  0:a", "sent 1 12345678901:a", "send 1",
                     "sent 1 0.a", "sent 1 0:a 1", "sent -1"]:
            self.no(1, read_stand, ["states 0 0", line], 2, 1)

    def test_some_lines_somewhat_changed(self):
        dues = {}
        for seed in range(1500):
            chance = random.Random(seed)
            form = some_form(chance)
            many = (len(form[0]), len(form[1]))
            lines = bent_lines(chance, stand_lines(some_stand(chance, form)))
            due = stand_fault(lines, *many)
            dues[due is None] = dues.get(due is None, 0) + 1
            self.is_due(due, stand_lines, read_stand, lines, *many)
        self.assertGreater(min(dues.values()), 200)


WORLD = (first(TALK), tuple(RUN), ((0, 1, 3), (0,), (0, 2)), ((1,), (), (0, 1, 2)), ((0, 0), (2, 0), (1, 11)))


class Worlds(Asking):

    def test_what_was_written(self):
        self.same(read_world, world_lines(WORLD), WORLD, 3, 5)
        self.same(read_world, world_lines(first_world(TALK, MIDST)), first_world(TALK, MIDST), 3, 5)
        self.same(read_world, world_lines(first_world(ALONE, first(ALONE))), first_world(ALONE, first(ALONE)), 1, 0)

    def test_what_is_no_right_world(self):
        self.same(read_world, ["states 5", "own 7", "hear 9 z", "come 9.9", "kept", "noted 7 3 3", "told 9:9 9:9"],
                  (((5,), ()), (("own", 7), ("hear", 9, "z"), ("come", 9, 9)), ((),), ((7, 3, 3),), ((9, 9), (9, 9))), 1, 0)

    def test_lines_in_their_places(self):
        lines = world_lines(WORLD)
        for many in range(len(lines)):
            if many not in range(6, 15):
                self.no(many, read_world, lines[:many], 3, 5)
        for many in range(6, 15):
            self.no(many, read_world, lines[:many], 3, 5)
            # A deed less is another world, but no other form of lines.
            fewer = (WORLD[0], WORLD[1][:many - 6] + WORLD[1][many - 5:]) + WORLD[2:]
            self.same(read_world, lines[:many] + lines[many + 1:], fewer, 3, 5)
        self.no(len(lines), read_world, lines + ["told"], 3, 5)
        self.no(len(lines), read_world, lines + [""], 3, 5)
        self.no(16, read_world, lines[:16] + ["own 0"] + lines[16:], 3, 5)
        self.no(17, read_world, lines[:15] + lines[16:], 3, 5)
        self.no(18, read_world, lines[:15] + ["kept 0"] + lines[15:], 3, 5)
        self.no(20, read_world, lines[:18] + lines[19:], 3, 5)
        self.no(15, read_world, lines[:15] + lines[18:21] + lines[15:18] + lines[21:], 3, 5)
        for line in ["keep 0", "tell 0 0", "note 0 0", "throw 0 0 0", "fall 0 0,0,0", "own", "own a", "hear 0", "come 0", "", "sent 0"]:
            for at in (6, 9, 15):
                self.no(at, read_world, lines[:at] + [line] + lines[at:], 3, 5)

    def test_words(self):
        lines = world_lines(WORLD)
        for line in ["kept ", "kept a", "kept 00", "kept 0  1", "kept 0 1 ", "kept 1234567890", "kept 0,1", "Kept 0", "kept 0:1"]:
            self.no(16, read_world, lines[:16] + [line] + lines[17:], 3, 5)
        for line in ["noted ", "noted a", "noted 01", "noted 0  1", "noted 1234567890", "notes 0", "note 0 0"]:
            self.no(20, read_world, lines[:20] + [line] + lines[21:], 3, 5)
        for line in ["told ", "told 0", "told 0:", "told :0", "told 0:a", "told 0:0:0", "told 0:00", "told 0:0 ", "told 0.0",
                     "told 0:1234567890", "tell 0 0", "told 0:0  1:0"]:
            self.no(21, read_world, lines[:21] + [line], 3, 5)

    def test_along_walks(self):
        dues = {}
        for chance, at_work, _ in world_walks(24, 80, fall_of):
            form, world = at_work.form, at_work.world()
            many = (len(form[0]), len(form[1]))
            lines = world_lines(world)
            self.same(read_world, lines, world, *many)
            lines = bent_lines(chance, lines)
            due = world_fault(lines, *many)
            dues[due is None] = dues.get(due is None, 0) + 1
            self.is_due(due, world_lines, read_world, lines, *many)
        self.assertGreater(min(dues.values()), 200)


FALL = ("fall", (0, 2), (3, 10, 0), [(1, ((0, 12), (7, 1000000000))), (2, ((2, 0),))])


class Deeds(Asking):

    def test_what_was_written(self):
        for deed in [("own", 0), ("hear", 3, "q"), ("come", 7, 0), ("come", 0, 9999999999), ("keep", 1), ("note", 2, 30),
                     ("tell", 0, 199), ("tell", 999999999, 999999999), ("throw", (0,)), ("throw", (10, 0, 3)),
                     ("fall", (0,), (0,), []), ("fall", (2, 0), (3, 10, 0), []), FALL]:
            self.same(read_deed, deed_text(deed), deed)
        for _, _, deed in world_walks(20, 60, fall_of):
            self.same(read_deed, deed_text(deed), deed)

    def test_what_is_told_is_the_askers_own(self):
        read_deed(deed_text(FALL))[3].clear()
        self.same(read_deed, deed_text(FALL), FALL)

    def test_first_words(self):
        for text in ["", " ", "x", "Own 0", " own 0", "owns 0", "mark 0", "begin 0", "0", "kept 0", "told 0:0", "own,0", "own0", "states"]:
            self.no(0, read_deed, text)

    def test_words_that_lack(self):
        for text, at in [("own", 1), ("hear", 1), ("hear 0", 2), ("come", 1), ("keep", 1), ("note", 1), ("note 0", 2), ("tell", 1),
                         ("tell 0", 2), ("throw", 1), ("fall", 1), ("fall 0", 2), ("fall 0,1", 2)]:
            self.no(at, read_deed, text)

    def test_words_too_many(self):
        for text, at in [("own 0 0", 2), ("own 0 ", 2), ("hear 0 a a", 3), ("come 0.0 0", 2), ("come 0.0  ", 2), ("keep 0 0", 2),
                         ("note 0 0 0", 3), ("tell 0 0 0 0", 3), ("tell 0 0 ", 3)]:
            self.no(at, read_deed, text)

    def test_words_that_are_not_as_told(self):
        odd = ["", "a", "-1", "+1", "00", "01", "1234567890", "0.0", "0:0", "0,0", "1 ", "own", "~"]
        for word in odd:
            if " " not in word:
                for text, at in [("own {}", 1), ("hear {} a", 1), ("keep {}", 1), ("note {} 0", 1), ("note 0 {}", 2),
                                 ("tell {} a", 1), ("tell 0 {}", 2), ("throw {}", 1), ("throw 0 {}", 2), ("throw 0 {} a", 2)]:
                    self.no(at, read_deed, text.format(word))
        for word in ["", "ab", "A", "0", "-", ".", "{"]:
            self.no(2, read_deed, f"hear 0 {word}")
        for word in ["", "0", "0.", ".0", "0:0", "0.0.0", "00.0", "0.00", "0.01", "0.a", "a.0", "1234567890.0", "0.12345678901", "0,0"]:
            self.no(1, read_deed, f"come {word}")
            self.no(3, read_deed, f"fall 0 0 0:{word}")
            self.no(4, read_deed, f"fall 0 0 0:0.0 0:0.0,{word}")
        for word in ["", ",", "0,", ",0", "0,,0", "a", "00", "0,01", "1234567890", "0.0", "0:0"]:
            self.no(1, read_deed, f"fall {word} 0")
            self.no(2, read_deed, f"fall 0 {word}")
            self.no(2, read_deed, f"fall 0 {word} 0:0.0")
        for word in ["", ":", "0:", ":0.0", "0", "0.0", "00:0.0", "a:0.0", "0:0.0:0.0", "0:0.0,", "0:,0.0", "1234567890:0.0", "0:0.0;0.0"]:
            self.no(3, read_deed, f"fall 0 0 {word}")
            self.no(3, read_deed, f"fall 0 0 {word} x")

    def test_where_several_are_due_the_first_goes(self):
        self.no(0, read_deed, "owns a b")
        self.no(1, read_deed, "own a b")
        self.no(1, read_deed, "hear a")
        self.no(1, read_deed, "note  0")
        self.no(2, read_deed, "note 0  0")
        self.no(1, read_deed, "fall x")

    def test_some_texts_somewhat_changed(self):
        dues = {}
        for chance, _, deed in world_walks(24, 100, fall_of):
            text = deed_text(chance.choice([deed, FALL]))
            for _ in range(chance.randint(1, 2)):
                text = bent(chance, text)
            due = deed_fault(text)
            dues[due] = dues.get(due, 0) + 1
            if due is None:
                self.assertEqual(deed_text(read_deed(text)), text)
            else:
                self.no(due, read_deed, text)
        self.assertGreater(min(dues.get(due, 0) for due in (None, 0, 1, 2, 3, 4)), 20)


if __name__ == "__main__":
    unittest.main()
