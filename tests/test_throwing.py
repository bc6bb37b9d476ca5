import itertools
import time
import unittest

from cutstand.errors import CutError
from cutstand.falling import fall_of, world_done
from cutstand.plain import run
from cutstand.stands import first
from cutstand.throwing import may_throw, renamed, thrown, thrown_far
from cutstand.worlds import all_fall, first_world, now, right_world
from helper import ALONE, MIDST, RUN, RUN_END, TALK, crowded, ends, put, right_worlds, unchanged, world_walks

KEPT, NOTED = ((0, 1, 3), (0, 1, 3), (0, 1, 2)), ((1,), (0,), (0, 1))
WORLD = (first(TALK), tuple(RUN), KEPT, NOTED, ((0, 0), (2, 0), (1, 1), (0, 2)))
MAY = [(0, 0, 0), (1, 0, 0), (1, 1, 0), (1, 0, 1), (1, 1, 1), (3, 0, 1), (3, 1, 1)]


class MayThrow(unittest.TestCase):

    def test_by_hand(self):
        found = [cut for cut in itertools.product(range(-1, 5), repeat=3) if unchanged(self, may_throw, TALK, WORLD, cut)]
        self.assertEqual(sorted(found), sorted(MAY))
        self.assertIs(may_throw(TALK, WORLD, (1, 1, 1)), True)
        self.assertIs(may_throw(TALK, WORLD, (1, 1, 2)), False)

    def test_each_position_is_kept(self):
        # Machine 0 is stable at 2, too, by its noted event, but does not keep it.
        self.assertEqual(all_fall(TALK, WORLD)[0], 3)
        self.assertIs(may_throw(TALK, WORLD, (2, 0, 1)), False)
        self.assertIs(may_throw(TALK, put(WORLD, (2, 0), (0, 1, 2)), (2, 0, 1)), True)

    def test_it_is_right(self):
        self.assertIs(may_throw(TALK, WORLD, (0, 0, 1)), False)
        self.assertIs(may_throw(TALK, WORLD, (3, 0, 0)), False)
        self.assertIs(may_throw(TALK, WORLD, (3, 0, 1)), True)

    def test_each_word_in_it_is_told(self):
        self.assertIs(may_throw(TALK, WORLD, (1, 3, 1)), False)
        self.assertIs(may_throw(TALK, put(WORLD, (4,), WORLD[4] + ((1, 2),)), (1, 3, 1)), True)
        self.assertIs(may_throw(TALK, put(WORLD, (4,), ()), (1, 0, 0)), False)

    def test_far_numbers(self):
        for cut in [(10 ** 19, 0, 0), (0, -(10 ** 19), 0), (4, 4, 4), (-1, -1, -1)]:
            self.assertIs(may_throw(TALK, WORLD, cut), False)


class Thrown(unittest.TestCase):

    def test_nothing(self):
        self.assertEqual(unchanged(self, thrown, TALK, WORLD, (0, 0, 0)), WORLD)

    def test_by_hand(self):
        told = unchanged(self, thrown, TALK, WORLD, (1, 1, 1))
        base = run(TALK, first(TALK), RUN[:3])[0]
        self.assertEqual(told, (base, tuple(RUN[3:]), ((0, 2), (0, 2), (0, 1)), ((0,), (), (0,)), ((1, 0), (0, 1))))
        self.assertEqual(now(TALK, told), RUN_END)
        self.assertEqual(told[0][1][0], (2, ((1, "c"),)))
        told = thrown(TALK, WORLD, (3, 0, 1))
        self.assertEqual(told[1:], (tuple(deed for deed in RUN if deed not in [("own", 0), ("come", 2, 0), ("come", 4, 0)]),
                                    ((0,), (0, 1, 3), (0, 1)), ((), (0,), (0,)), ((1, 1),)))
        self.assertEqual(told[0], ((7, 5, 98), ((3, ((0, "a"), (1, "c"), (2, "x"))), (0, ()), (1, ()), (0, ()), (1, ()))))
        self.assertEqual(now(TALK, told), RUN_END)
        self.assertIs(right_world(TALK, told), True)

    def test_all(self):
        world = put(WORLD, (2, 2), (0, 1, 2, 3))
        for event in [(1, 2), (2, 1)]:
            world = world_done(TALK, world, ("tell",) + event)[0]
        self.assertEqual(thrown_far(TALK, world), (3, 3, 3))
        self.assertEqual(thrown(TALK, world, (3, 3, 3)), (RUN_END, (), ((0,),) * 3, ((),) * 3, ()))
        self.assertEqual(thrown(TALK, world, (3, 3, 3)), first_world(TALK, RUN_END))

    def test_letters_keep_their_numbers(self):
        world = thrown(TALK, WORLD, (1, 1, 1))
        self.assertEqual(world_done(TALK, world, ("come", 3, 3))[0][1][-1], ("come", 3, 3))
        self.assertEqual(now(TALK, world_done(TALK, world, ("own", 1))[0])[1][3][0], 7)


class ThrownFar(unittest.TestCase):

    def test_by_hand(self):
        told = unchanged(self, thrown_far, TALK, WORLD)
        self.assertEqual((told, type(told)), ((3, 1, 1), tuple))
        self.assertEqual(thrown_far(TALK, first_world(TALK, MIDST)), (0, 0, 0))
        self.assertEqual(thrown_far(TALK, put(WORLD, (4,), ())), (0, 0, 0))
        self.assertEqual(thrown_far(TALK, put(WORLD, (4,), WORLD[4][:1])), (1, 1, 0))
        self.assertEqual(thrown_far(ALONE, put(first_world(ALONE, ((4,), ())), (1,), (("hear", 0, "z"),))), (0,))
        world = (((4,), ()), (("hear", 0, "z"), ("own", 0)), ((0, 1, 2),), ((),), ())
        self.assertEqual(thrown_far(ALONE, world), (1,))

    def test_along_walks(self):
        far = many = 0
        for chance, at_work, _ in world_walks(24, 120, fall_of):
            form, world, cuts = at_work.form, at_work.world(), at_work.cuts()
            told = thrown_far(form, world)
            self.assertIn(told, cuts)
            self.assertEqual(told, tuple(map(max, zip(*cuts))))
            self.assertTrue(all(one <= other for one, other in zip(told, all_fall(form, world))))
            far += any(told)
            for cut in [tuple(chance.randint(0, end) for end in ends(form, world[1])) for _ in range(4)] + cuts[-3:]:
                self.assertIs(may_throw(form, world, cut), cut in cuts)
                if cut in cuts:
                    behind = at_work.at(world)
                    behind.throw(cut)
                    self.assertEqual(repr(thrown(form, world, cut)), repr(behind.world()))
                    self.assertIs(right_world(form, thrown(form, world, cut)), True)
                    many += any(cut)
        self.assertGreater(min(far, many), 200)

    def test_long_worlds(self):
        begin = time.perf_counter()
        form, stand, deeds = crowded()
        many = ends(form, deeds)
        world = (stand, tuple(deeds), tuple(tuple(range(end + 1)) for end in many), ((),) * 4, ())
        self.assertEqual(thrown_far(form, world), (0, 0, 0, 0))
        quiet = (tuple((start, tuple(move[:4] + (None,) for move in moves)) for start, moves in form[0]), form[1])
        self.assertEqual(thrown_far(quiet, world), tuple(many))
        self.assertEqual(thrown(quiet, world, tuple(many)), first_world(quiet, run(quiet, stand, deeds)[0]))
        self.assertLess(time.perf_counter() - begin, 5)


class Renamed(unittest.TestCase):

    def named(self, cut, deed, due):
        told = unchanged(self, renamed, cut, deed)
        self.assertEqual(repr(told), repr(due))

    def test_what_stays(self):
        for deed in [("own", 0), ("hear", 2, "z"), ("come", 0, 0), ("come", 1, 99), ("keep", 1), ("own", 9), ("keep", 9)]:
            self.named((5, 5, 5), deed, deed)

    def test_note_and_tell(self):
        for word in ("note", "tell"):
            self.named((1, 2, 3), (word, 0, 1), (word, 0, 0))
            self.named((1, 2, 3), (word, 1, 7), (word, 1, 5))
            self.named((1, 2, 3), (word, 2, 3), (word, 2, 0))
            self.named((1, 2, 3), (word, 0, 0), None)
            self.named((1, 2, 3), (word, 2, 2), None)
            self.named((1, 2, 3), (word, 2, -1), None)
            self.named((0, 0, 0), (word, 2, 0), (word, 2, 0))
            self.named((0, 0, 0), (word, 2, 10 ** 19), (word, 2, 10 ** 19))
            # No machine has this number, so nothing of it is gone.
            self.named((1, 2, 3), (word, 3, 4), (word, 3, 4))
            self.named((1, 2, 3), (word, -1, 4), (word, -1, 4))

    def test_fall(self):
        ways = [(0, ((1, 1), (0, 0))), (2, ((3, 1),))]
        self.named((1, 2, 3), ("fall", (0, 2), (1, 4, 3), ways), ("fall", (0, 2), (0, 2, 0), ways))
        self.named((1, 2, 3), ("fall", (0,), (0, 9, 9), ways), None)
        self.named((1, 2, 3), ("fall", (0,), (9, 9, 2), []), None)
        self.named((0, 0), ("fall", (1,), (0, 0), []), ("fall", (1,), (0, 0), []))
        deed = ("fall", (0,), (0,), [(0, ((0, 0),))])
        renamed((0,), deed)[3].clear()
        self.assertEqual(deed, ("fall", (0,), (0,), [(0, ((0, 0),))]))

    def test_throw(self):
        self.named((1, 2, 3), ("throw", (1, 2, 3)), ("throw", (0, 0, 0)))
        self.named((1, 2, 3), ("throw", (5, 2, 9)), ("throw", (4, 0, 6)))
        self.named((1, 2, 3), ("throw", (1, 1, 3)), None)
        self.named((1, 2, 3), ("throw", (0, 9, 9)), None)


def outcome(form, world, deed):
    """What comes of a deed: the world and what is told, or the class of its refusal."""
    try:
        return world_done(form, world, deed)
    except CutError as refusal:
        return type(refusal)


class BehindAThrow(unittest.TestCase):

    def test_a_deed_and_its_renamed_one_do_the_same(self):
        met = {}
        for chance, at_work, _ in world_walks(20, 150, fall_of, 10):
            form, world = at_work.form, at_work.world()
            cut = chance.choice(at_work.cuts())
            if not any(cut):
                cut = thrown_far(form, world)
            behind = thrown(form, world, cut)
            fall = fall_of(form, world, chance.choice(at_work.groups()))
            tried = at_work.deeds_to_try(chance)
            tried = chance.sample(tried, min(len(tried), 8)) + [fall, ("throw", thrown_far(form, world))]
            tried.append(put(fall, (2,), chance.choice(at_work.cuts())))
            tried.append(put(fall, (3,), fall[3][1:]))
            for deed in tried:
                other = renamed(cut, deed)
                if other is None:
                    continue
                one, two = outcome(form, world, deed), outcome(form, behind, other)
                if any(cut):
                    kind = one if isinstance(one, type) else None
                    met[(deed[0], kind)] = met.get((deed[0], kind), 0) + 1
                if isinstance(one, type) or isinstance(two, type):
                    self.assertEqual(one, two)
                elif deed[0] == "throw":
                    self.assertEqual(one, two)
                else:
                    self.assertEqual(one[1], two[1])
                    self.assertEqual(thrown(form, one[0], cut), two[0])
            self.assertIsNotNone(renamed(cut, fall))
        for kind in ("own", "come", "hear", "keep", "note", "tell", "fall", "throw"):
            self.assertIn((kind, None), met)
        self.assertEqual({kind for kind, error in met if error}, {"own", "come", "keep", "note", "tell", "fall", "throw"})

    def test_from_any_right_world(self):
        many = 0
        for chance, at_work in right_worlds(10, 60):
            form, world, cut = at_work.form, at_work.world(), chance.choice(at_work.cuts())
            cut = cut if any(cut) else thrown_far(form, world)
            many += any(cut)
            for machines in at_work.groups():
                fall = fall_of(form, world, machines)
                one = world_done(form, world, fall)[0]
                two = world_done(form, thrown(form, world, cut), renamed(cut, fall))[0]
                self.assertEqual(thrown(form, one, cut), two)
        self.assertGreater(many, 10)

    def test_rows_of_deeds_do_the_same(self):
        rows = 0
        for chance, at_work, _ in world_walks(16, 80, fall_of, 8):
            form, world = at_work.form, at_work.world()
            cut = thrown_far(form, world)
            if not any(cut) or chance.random() < 0.7:
                continue
            rows += 1
            other, ahead = thrown(form, world, cut), at_work.at(world)
            for _ in range(8):
                kind = chance.choice([("own", "come", "hear"), ("keep", "note"), ("tell",), "fall"])
                deed = ahead.may(chance, kind)
                if deed is not None and kind == "fall":
                    deed = fall_of(form, ahead.world(), deed[1])
                if deed is not None and renamed(cut, deed) is not None:
                    told = ahead.do(deed)
                    other, outside = world_done(form, other, renamed(cut, deed))
                    self.assertEqual(outside, told)
                    self.assertEqual(thrown(form, ahead.world(), cut), other)
        self.assertGreater(rows, 50)


if __name__ == "__main__":
    unittest.main()
