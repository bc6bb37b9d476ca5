import unittest

from cutstand.falling import fall_of
from cutstand.stands import first
from cutstand.texts import deed_text, form_lines, stand_lines, world_lines
from cutstand.worlds import first_world
from helper import ALONE, MIDST, RUN, TALK, put, unchanged

TALK_LINES = [
    "machine 0", "move 0 own 1 go 0:a 2:b 0:c", "move 1 own 0 -", "move 0 d 7 heard 0:x", "move 1 e 1 ee",
    "machine 5", "move 5 a 6 - 1:d 3:p", "move 6 c 5 see 1:e", "move 5 own 5 abcdefgh 3:q 3:r 3:s",
    "machine 99", "move 99 b 98 bee 4:d", "move 98 q 99 cue", "move 98 own 98 - 4:z",
    "road 0 1 row", "road 1 0 row", "road 0 2 heap", "road 1 2 heap", "road 2 0 row",
]
MIDST_LINES = ["states 1 6 98", "sent 4 2:a 3:c", "sent 1", "sent 6 0:b 3:q 4:b", "sent 9 8:q", "sent 2 0:d 1:z"]


class Texts(unittest.TestCase):

    def lines(self, call, thing, due):
        told = unchanged(self, call, thing)
        self.assertEqual((told, type(told)), (due, list))
        told.append("more")
        self.assertEqual(call(thing), due)

    def test_forms(self):
        self.lines(form_lines, TALK, TALK_LINES)
        self.lines(form_lines, ALONE, ["machine 3", "move 3 own 4 up", "move 4 z 3 -"])
        self.lines(form_lines, (((0, ()),), ()), ["machine 0"])
        self.lines(form_lines, (((0, ()), (42, ())), ((1, 0, "heap"),)), ["machine 0", "machine 42", "road 1 0 heap"])

    def test_stands(self):
        self.lines(stand_lines, MIDST, MIDST_LINES)
        self.lines(stand_lines, first(TALK), ["states 0 5 99"] + ["sent 0"] * 5)
        self.lines(stand_lines, first(ALONE), ["states 3"])
        far = ((0, 10), ((10 ** 9, ((10 ** 9 - 1, "z"),)), (9999999999, ((0, "a"), (9999999998, "b")))))
        self.lines(stand_lines, far, ["states 0 10", "sent 1000000000 999999999:z", "sent 9999999999 0:a 9999999998:b"])

    def test_worlds(self):
        self.lines(world_lines, first_world(TALK, MIDST), MIDST_LINES + ["kept 0"] * 3 + ["noted"] * 3 + ["told"])
        world = (first(TALK), tuple(RUN), ((0, 1, 3), (0,), (0, 2)), ((1,), (), (0, 1, 2)), ((0, 0), (2, 0), (1, 11)))
        self.lines(world_lines, world, ["states 0 5 99"] + ["sent 0"] * 5 + [
            "own 0", "come 0.0", "come 2.0", "come 0.1", "own 1", "come 3.1", "own 0", "come 4.0", "hear 2 k",
            "kept 0 1 3", "kept 0", "kept 0 2", "noted 1", "noted", "noted 0 1 2", "told 0:0 2:0 1:11"])
        self.lines(world_lines, put(first_world(ALONE, first(ALONE)), (1,), (("hear", 0, "z"),)),
                   ["states 3", "hear 0 z", "kept 0", "noted", "told"])

    def test_deeds(self):
        for deed, text in [
            (("own", 0), "own 0"), (("own", 12), "own 12"), (("hear", 3, "q"), "hear 3 q"), (("come", 7, 0), "come 7.0"),
            (("come", 0, 1234567890), "come 0.1234567890"), (("keep", 1), "keep 1"), (("note", 2, 30), "note 2 30"),
            (("tell", 0, 199), "tell 0 199"), (("tell", 123456789, 987654321), "tell 123456789 987654321"),
            (("throw", (0,)), "throw 0"), (("throw", (10, 0, 3)), "throw 10 0 3"),
            (("fall", (0,), (0,), []), "fall 0 0"), (("fall", (0, 2), (3, 10, 0), []), "fall 0,2 3,10,0"),
            (("fall", (1,), (2, 1), [(0, ((1, 1),))]), "fall 1 2,1 0:1.1"),
            (("fall", (0, 1, 2, 3), (0, 0, 0, 0), [(1, ((0, 12), (7, 1000000000))), (3, ((2, 0),))]),
             "fall 0,1,2,3 0,0,0,0 1:0.12,7.1000000000 3:2.0"),
        ]:
            told = unchanged(self, deed_text, deed)
            self.assertEqual((told, type(told)), (text, str))

    def test_a_fall_that_is_made(self):
        world = (first(TALK), tuple(RUN), ((0, 1), (0, 2), (0, 1)), ((),) * 3, ())
        deed = fall_of(TALK, world, (0, 1))
        self.assertEqual(deed, ("fall", (0, 1), (1, 2, 1), [(2, ((3, 1),))]))
        self.assertEqual(deed_text(deed), "fall 0,1 1,2,1 2:3.1")


if __name__ == "__main__":
    unittest.main()
