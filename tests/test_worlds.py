import time
import unittest

from cutstand.errors import NoWorld
from cutstand.falling import fall_of, world_done
from cutstand.stands import first
from cutstand.worlds import all_fall, ends_of, first_world, now, right_world, words_in
from helper import (ALONE, MIDST, MIDST_RUN, ODD_THINGS, RUN, RUN_END, TALK, AtWorld, crowded, ends, put, refused,
                    unchanged, world_walks)

# A world of RUN; of its stable positions all are in the line (3, 3, 2).
KEPT, NOTED = ((0, 1, 3), (0, 3), (0, 2)), ((1,), (0,), (0, 1))
WORLD = (first(TALK), tuple(RUN), KEPT, NOTED, ((0, 0), (2, 0), (1, 1)))
RUN_WORD_LIST = ["go", None, "bee", "see", "abcdefgh", "cue", None, "heard", None]


def world_fault(form, world):
    """The fields of the refusal that is due of a tuple of a stand, a run and three tuples, None of a right world."""
    if len(world[2]) != len(form[0]):
        return -1, "kept"
    if len(world[3]) != len(form[0]):
        return -1, "noted"
    for m, end in enumerate(ends(form, world[1])):
        kept, noted = world[2][m], world[3][m]
        if list(kept) != sorted(set(kept)) or kept[:1] != (0,) or max(kept) > end:
            return m, "kept"
        if list(noted) != sorted(set(noted)) or not set(noted) <= set(range(end)):
            return m, "noted"
    return AtWorld(form, world[0]).at(world).told_fault()


class Told(unittest.TestCase):

    def test_first_world(self):
        self.assertEqual(unchanged(self, first_world, TALK, first(TALK)), (first(TALK), (), ((0,),) * 3, ((),) * 3, ()))
        self.assertEqual(first_world(TALK, MIDST), (MIDST, (), ((0,), (0,), (0,)), ((), (), ()), ()))
        self.assertEqual(first_world(ALONE, first(ALONE)), (((3,), ()), (), ((0,),), ((),), ()))
        self.assertIs(right_world(TALK, first_world(TALK, MIDST)), True)

    def test_now(self):
        self.assertEqual(unchanged(self, now, TALK, WORLD), RUN_END)
        self.assertEqual(now(TALK, first_world(TALK, MIDST)), MIDST)

    def test_ends_of(self):
        told = unchanged(self, ends_of, TALK, WORLD)
        self.assertEqual((told, type(told)), ((3, 3, 3), tuple))
        self.assertEqual(ends_of(TALK, put(WORLD, (1,), WORLD[1][:3])), (1, 1, 1))
        self.assertEqual(ends_of(TALK, first_world(TALK, MIDST)), (0, 0, 0))
        self.assertEqual(ends_of(ALONE, put(first_world(ALONE, first(ALONE)), (1,), (("own", 0),))), (1,))

    def test_words_in(self):
        told = unchanged(self, words_in, TALK, WORLD)
        self.assertEqual((told, type(told)), (RUN_WORD_LIST, list))
        told.append("more")
        self.assertEqual(words_in(TALK, WORLD), RUN_WORD_LIST)
        self.assertEqual(words_in(TALK, first_world(TALK, MIDST)), [])

    def test_all_fall(self):
        told = unchanged(self, all_fall, TALK, WORLD)
        self.assertEqual((told, type(told)), ((3, 3, 2), tuple))
        self.assertEqual(all_fall(TALK, first_world(TALK, MIDST)), (0, 0, 0))
        # Without its kept 3, machine 1 is stable at 1, so that (3, 1), sent by its event 2, holds machine 2 back.
        self.assertEqual(all_fall(TALK, put(WORLD, (2, 1), (0,))), (3, 1, 1))
        self.assertEqual(all_fall(TALK, put(WORLD, (2, 1), (0, 2))), (3, 2, 1))
        # A noted event leads on only from where its machine is stable: event 2 does not from the kept 1.
        self.assertEqual(all_fall(TALK, put(put(WORLD, (2, 0), (0, 1)), (3, 0), (2,))), (1, 3, 2))
        self.assertEqual(all_fall(TALK, put(put(WORLD, (2, 0), (0, 1)), (3, 0), (1,))), (2, 3, 2))
        # Machine 0 is stable at 0 alone, though it has events behind it; what it sent makes the others go back.
        self.assertEqual(all_fall(TALK, put(WORLD, (2, 0), (0,))), (0, 0, 0))

    def test_along_walks(self):
        moved = 0
        for _, at_work, deed in world_walks(24, 60, fall_of):
            form, world = at_work.form, at_work.world()
            self.assertEqual(now(form, world), at_work.model().stand())
            self.assertEqual(list(ends_of(form, world)), at_work.ends())
            self.assertEqual(words_in(form, world), list(at_work.words().values()))
            self.assertEqual(all_fall(form, world), at_work.all_fall())
            self.assertIs(unchanged(self, right_world, form, world), True)
            moved += any(at_work.all_fall())
        self.assertGreater(moved, 100)


class RightWorld(unittest.TestCase):

    def wrong(self, machine, word, thing, form=TALK):
        refused(self, NoWorld, {"machine": machine, "word": word}, right_world, form, thing)

    def right(self, thing, form=TALK):
        self.assertIs(unchanged(self, right_world, form, thing), True)

    def told(self, *events):
        return put(WORLD, (4,), events)

    def test_right_ones(self):
        self.right(WORLD)
        self.right(self.told())
        self.right(put(WORLD, (3,), ((0, 1, 2), (0, 1, 2), (0, 1, 2))))
        self.right(put(WORLD, (2,), ((0, 1, 2, 3), (0, 3), (0, 3))))
        self.right((MIDST, tuple(MIDST_RUN), ((0,),) * 3, ((),) * 3, ()))

    def test_shape(self):
        for thing in ODD_THINGS:
            self.wrong(-1, "shape", thing)
            self.wrong(-1, "shape", put(WORLD, (0,), thing))
            if not isinstance(thing, tuple):
                for place in (1, 2, 3, 4):
                    self.wrong(-1, "shape", put(WORLD, (place,), thing))
        for thing in [list(WORLD), WORLD[:4], WORLD + ((),), put(WORLD, (0,), first(ALONE)), put(WORLD, (0, 0, 0), True),
                      put(WORLD, (0, 0, 0), 100), put(WORLD, (0,), list(first(TALK)))]:
            self.wrong(-1, "shape", thing)
        for place in (1, 2, 3, 4):
            self.wrong(-1, "shape", put(WORLD, (place,), list(WORLD[place])))

    def test_deed(self):
        for thing in ODD_THINGS + [["own", 0], ("keep", 0), ("come", 0, 0), ("come", 2, True), ("own", False), ("own", 2)]:
            self.wrong(-1, "deed", put(WORLD, (1,), (thing,)))
            self.wrong(-1, "deed", put(WORLD, (1,), tuple(RUN) + (thing,)))
        for number in range(5):
            self.wrong(-1, "deed", put(WORLD, (1,), tuple(RUN[:number] + RUN[number + 1:])))

    def test_kept_and_noted_in_all(self):
        for place, word in ((2, "kept"), (3, "noted")):
            for thing in [(), WORLD[place][:2], WORLD[place] + (WORLD[place][0],), (0,), (None, None)]:
                self.wrong(-1, word, put(WORLD, (place,), thing))

    def test_kept(self):
        for m in range(3):
            for thing in ODD_THINGS + [(), (1,), (1, 2), (0, 0), (0, 2, 1), (0, 1, 1), (0, 4), (0, -1), (-1, 0), [0], [0, 3],
                                       (0, True), (False,), (False, 1), (0, "1"), (0, None), (0, (1,)), (0, 10 ** 19)]:
                self.wrong(m, "kept", put(WORLD, (2, m), thing))
        for thing in [(0,), (0, 3), (0, 1), (0, 1, 2, 3)]:
            self.right(put(self.told(), (2, 2), thing))

    def test_noted(self):
        for m in range(3):
            for thing in ODD_THINGS + [(3,), (0, 3), (0, 0), (1, 0), (-1,), (-1, 0), [0], [], (True,), (False,), (0, True),
                                       ("0",), (None,), ((0,),), (0, 10 ** 19)]:
                if thing != () or isinstance(thing, list):
                    self.wrong(m, "noted", put(WORLD, (3, m), thing))
        for thing in [(), (0,), (2,), (0, 2), (0, 1, 2)]:
            self.right(put(self.told(), (3, 1), thing))

    def test_told(self):
        for thing in ODD_THINGS + [(0, 3), (1, 3), (3, 0), (0, -1), (-1, 0), (0, True), (False, 0), [0, 0], (0,), (0, 0, 0),
                                   ("0", 0), (None, 0), (10 ** 19, 0), (0, 10 ** 19)]:
            if thing != (0, 0) or isinstance(thing, list):
                self.wrong(-1, "told", self.told(thing))
                self.wrong(-1, "told", self.told((0, 0), (2, 0), thing))

    def test_twice(self):
        self.wrong(0, "twice", self.told((0, 0), (0, 0)))
        self.wrong(2, "twice", self.told((0, 0), (2, 0), (1, 1), (2, 0), (0, 0)))

    def test_word(self):
        self.wrong(1, "word", self.told((1, 0)))
        self.wrong(0, "word", self.told((0, 0), (0, 1)))
        self.wrong(2, "word", self.told((2, 2)))

    def test_line(self):
        world = put(WORLD, (2,), ((0, 1), (0, 1), (0,)))
        self.assertEqual(all_fall(TALK, world), (2, 1, 1))
        self.right(put(world, (4,), ((0, 0), (2, 0))))
        self.wrong(1, "line", put(world, (4,), ((0, 0), (2, 0), (1, 1))))
        self.wrong(0, "line", put(world, (4,), ((0, 2),)))
        self.wrong(2, "line", put(world, (4,), ((2, 1),)))

    def test_before(self):
        self.right(self.told((0, 0), (1, 1), (1, 2), (2, 0), (2, 1), (0, 2)))
        self.right(self.told((0, 0), (2, 0), (0, 2), (1, 1), (1, 2), (2, 1)))
        self.wrong(2, "before", self.told((2, 0)))
        self.wrong(1, "before", self.told((1, 1), (0, 0)))
        self.wrong(1, "before", self.told((0, 0), (1, 2), (1, 1)))
        self.wrong(2, "before", self.told((0, 0), (2, 0), (2, 1)))
        self.wrong(2, "before", self.told((0, 0), (1, 1), (1, 2), (2, 1)))
        self.wrong(0, "before", self.told((0, 0), (0, 2)))

    def test_where_several_are_due_the_first_goes(self):
        odd = put(put(put(put(WORLD, (1,), (None,)), (2,), ()), (3,), ()), (4,), (None,))
        self.wrong(-1, "shape", put(odd, (4,), None))
        self.wrong(-1, "deed", odd)
        self.wrong(-1, "kept", put(odd, (1,), ()))
        self.wrong(-1, "noted", put(put(odd, (1,), ()), (2,), (None,) * 3))
        self.wrong(0, "kept", put(put(put(odd, (1,), ()), (2,), (None,) * 3), (3,), (None,) * 3))
        self.wrong(0, "noted", put(put(put(odd, (1,), ()), (2,), ((0,), None, None)), (3,), (None,) * 3))
        self.wrong(1, "kept", put(put(put(odd, (1,), ()), (2,), ((0,), None, None)), (3,), ((), None, None)))
        self.wrong(2, "noted", put(put(put(odd, (1,), ()), (2,), ((0,),) * 3), (3,), ((), (), None)))
        self.wrong(-1, "told", put(put(put(odd, (1,), ()), (2,), ((0,),) * 3), (3,), ((),) * 3))
        self.wrong(1, "word", self.told((1, 0), (0, 9)))
        low = put(WORLD, (2,), ((0,), (0,), (0,)))
        self.wrong(1, "word", put(put(low, (3, 1), ()), (4,), ((1, 0),)))
        self.wrong(2, "line", put(low, (4,), ((2, 1),)))
        self.wrong(2, "before", self.told((2, 0), (2, 0)))

    def test_some_worlds_somewhat_changed(self):
        dues = {}
        for chance, at_work, _ in world_walks(24, 150, fall_of):
            form, world = at_work.form, at_work.world()
            for _ in range(chance.randint(1, 2)):
                world = changed(chance, form, world)
            due = world_fault(form, world)
            dues[due and due[1]] = dues.get(due and due[1], 0) + 1
            if due is None:
                self.right(world, form)
            else:
                self.wrong(*due, world, form)
        self.assertEqual(set(dues), {None, "kept", "noted", "told", "twice", "word", "line", "before"})
        self.assertGreater(min(dues.values()), 10)

    def test_long_worlds(self):
        begin = time.perf_counter()
        form, stand, deeds = crowded()
        world = (stand, tuple(deeds), tuple((0, end) for end in ends(form, deeds)), ((),) * 4, ())
        for deed in deeds:
            m = form[1][deed[1]][1] if deed[0] == "come" else deed[1]
            told = world[4] + ((m, [one for one, _ in world[4]].count(m)),)
            world = world[:4] + (told,)
        self.right(world, form)
        self.assertEqual(all_fall(form, world), tuple(ends(form, deeds)))
        self.assertEqual(world_done(form, world[:4] + (world[4][:-1],), ("tell",) + world[4][-1])[0], world)
        self.assertLess(time.perf_counter() - begin, 5)


def changed(chance, form, world):
    """A world with something changed in what is kept, noted or told."""
    place, m = chance.choice([2, 3, 4, 4, 4]), chance.randrange(len(form[0]))
    if place == 4:
        told = list(world[4])
        at = chance.randint(0, len(told))
        event = (m, chance.randint(0, 3))
        told[at:at + chance.randint(0, 1)] = [event] * chance.randint(0, 1)
        if told and chance.random() < 0.2:
            told.append(chance.choice(told))
        return put(world, (4,), tuple(told))
    own = list(world[place][m])
    at = chance.randint(0 if place == 3 else 1, len(own)) if own else 0
    own[at:at + chance.randint(0, 1)] = [chance.randint(0, 4)] * chance.randint(0, 1)
    return put(world, (place, m), tuple(own))


if __name__ == "__main__":
    unittest.main()
