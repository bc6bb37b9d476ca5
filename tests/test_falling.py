import time
import unittest

from cutstand.choices import choices_of
from cutstand.errors import NoDeed, NoLine, NoWorld
from cutstand.falling import fall_choices, fall_of, gone_back, world_done
from cutstand.lines import latest, line_asked
from cutstand.stands import first
from cutstand.throwing import thrown
from cutstand.worlds import all_fall, ends_of, first_world, now, right_world
from helper import (ALONE, MIDST, ODD_THINGS, PING, RUN, RUN_LETTERS, TALK, crowded, first_worlds, journeys, ping_run, put,
                    refused, right_worlds, unchanged, walk, way_goes, world_walks)

KEPT, NOTED = ((0, 1, 3), (0, 3), (0, 2)), ((1,), (0,), (0, 1))
WORLD = (first(TALK), tuple(RUN), KEPT, NOTED, ((0, 0), (2, 0), (1, 1)))

# PING's letter to and fro; machine 0 keeps 0, 2 and notes its event 2, machine 1 keeps 0, 1.
PINGED = (first(PING), tuple(ping_run(7)), ((0, 2), (0, 1)), ((2,), ()), ())
PING_FALL = ("fall", (1,), (2, 1), [(0, ((1, 1),))])


class Asking(unittest.TestCase):

    def done(self, world, deed, to, form=TALK, told=None):
        """Ask that a deed leads from a world to another one, which is right."""
        outcome = unchanged(self, world_done, form, world, deed)
        self.assertEqual((type(outcome), len(outcome), outcome[1]), (tuple, 2, told))
        self.assertEqual(repr(outcome[0]), repr(to))
        self.assertIs(right_world(form, outcome[0]), True)

    def no_deed(self, world, thing, form=TALK):
        refused(self, NoDeed, {"number": 0}, world_done, form, world, thing)

    def no_world(self, machine, word, world, thing, form=TALK):
        refused(self, NoWorld, {"machine": machine, "word": word}, world_done, form, world, thing)

    def no_line(self, machine, choice, word, world, thing, form=PING):
        refused(self, NoLine, {"machine": machine, "choice": choice, "word": word}, world_done, form, world, thing)


class Deeds(Asking):

    def test_plain(self):
        for deed in [("hear", 0, "z"), ("come", 1, 0), ("come", 3, 3), ("come", 3, 0), ("own", 1), ("come", 0, 2)]:
            self.done(WORLD, deed, put(WORLD, (1,), WORLD[1] + (deed,)))
        self.done(first_world(TALK, MIDST), ("come", 2, 3), put(first_world(TALK, MIDST), (1,), (("come", 2, 3),)))
        self.done(first_world(ALONE, first(ALONE)), ("own", 0), put(first_world(ALONE, first(ALONE)), (1,), (("own", 0),)), ALONE)

    def test_plain_that_cannot_be_done(self):
        for deed in [("own", 0), ("own", 2), ("own", 3), ("own", -1), ("hear", 3, "z"), ("hear", 0, "zz"), ("come", 0, 0),
                     ("come", 1, 1), ("come", 5, 0), ("come", 3, 1), ("come", 3, 4), ["own", 1], ("own", True), ("own", "1"),
                     ("hear", 0), ("own", 1, 1), ("begin", 0), ("mark", 0)]:
            self.no_deed(WORLD, deed)

    def test_keep(self):
        self.done(WORLD, ("keep", 2), put(WORLD, (2, 2), (0, 2, 3)))
        self.no_deed(WORLD, ("keep", 0))
        self.no_deed(WORLD, ("keep", 1))
        self.no_deed(first_world(TALK, MIDST), ("keep", 0))
        for thing in ODD_THINGS + [3, True]:
            if thing != 0 and thing != 1:
                self.no_deed(WORLD, ("keep", thing))
        for deed in [("keep",), ("keep", 2, 0), ["keep", 2], ("keep", True), ("kept", 2), ("keep", "2"), ("keep", 2, 3)]:
            self.no_deed(WORLD, deed)

    def test_note(self):
        self.done(WORLD, ("note", 0, 0), put(WORLD, (3, 0), (0, 1)))
        self.done(WORLD, ("note", 0, 2), put(WORLD, (3, 0), (1, 2)))
        self.done(WORLD, ("note", 2, 2), put(WORLD, (3, 2), (0, 1, 2)))
        self.done(WORLD, ("note", 1, 1), put(WORLD, (3, 1), (0, 1)))
        for deed in [("note", 0, 1), ("note", 1, 0), ("note", 2, 0), ("note", 0, 3), ("note", 0, -1), ("note", 3, 0),
                     ("note", -1, 0), ("note", 0, True), ("note", False, 0), ("note", 0), ("note", 0, 0, 0), ["note", 0, 0],
                     ("note", 0, "0"), ("note", 0, None), ("note", 10 ** 19, 0), ("note", 0, 10 ** 19), ("note", (0,), (0,))]:
            self.no_deed(WORLD, deed)
        self.no_deed(first_world(TALK, MIDST), ("note", 0, 0))

    def test_tell(self):
        self.done(WORLD, ("tell", 0, 2), put(WORLD, (4,), WORLD[4] + ((0, 2),)), TALK, (0, "heard"))
        self.done(WORLD, ("tell", 1, 2), put(WORLD, (4,), WORLD[4] + ((1, 2),)), TALK, (1, "abcdefgh"))
        self.done(put(WORLD, (4,), ()), ("tell", 0, 0), put(WORLD, (4,), ((0, 0),)), TALK, (0, "go"))

    def test_tell_that_cannot_be(self):
        for deed in [("tell", 0, 3), ("tell", 3, 0), ("tell", -1, 0), ("tell", 0, -1), ("tell", 10 ** 19, 10 ** 19)]:
            self.no_world(-1, "told", WORLD, deed)
            self.no_world(-1, "told", put(WORLD, (4,), ()), deed)
        self.no_world(0, "twice", WORLD, ("tell", 0, 0))
        self.no_world(1, "word", WORLD, ("tell", 1, 0))
        self.no_world(2, "word", WORLD, ("tell", 2, 2))
        self.no_world(2, "before", WORLD, ("tell", 2, 1))
        self.no_world(2, "before", put(WORLD, (4,), ()), ("tell", 2, 0))
        low = put(put(WORLD, (2,), ((0, 1), (0, 1), (0,))), (4,), ())
        self.no_world(1, "line", low, ("tell", 1, 1))
        self.no_world(0, "line", low, ("tell", 0, 2))
        for thing in ODD_THINGS + ["0", (0,)]:
            if type(thing) is not int:
                self.no_deed(WORLD, ("tell", 0, thing))
                self.no_deed(WORLD, ("tell", thing, 2))
        for deed in [("tell", 0, 2, 0), ("tell", 0), ["tell", 0, 2], ("tell", (0, 2)), ("tell",)]:
            self.no_deed(WORLD, deed)

    def test_fall(self):
        self.done(PINGED, PING_FALL, (first(PING), tuple(ping_run(3)) + (), ((0, 2), (0, 1)), ((), ()), ()), PING)

    def test_fall_with_another_line_or_ways(self):
        self.no_line(None, None, "line", PINGED, put(PING_FALL, (2,), [2, 1]))
        self.no_line(None, None, "line", PINGED, put(PING_FALL, (2,), (2,)))
        self.no_line(None, None, "line", PINGED, put(PING_FALL, (2,), (2, True)))
        self.no_line(1, 2, "choice", PINGED, put(PING_FALL, (2,), (2, 2)))
        self.no_line(0, 1, "choice", PINGED, put(PING_FALL, (2,), (1, 3)))
        self.no_line(0, 4, "letter", PINGED, put(PING_FALL, (2,), (4, 1)))
        self.no_line(None, None, "ways", PINGED, put(PING_FALL, (3,), ()))
        self.no_line(None, None, "ways", PINGED, put(PING_FALL, (3,), tuple(PING_FALL[3])))
        self.no_line(None, None, "ways", PINGED, put(PING_FALL, (3,), []))
        self.no_line(0, 3, "way", PINGED, put(PING_FALL, (3,), [(0, ())]))
        self.no_line(0, 3, "way", PINGED, put(PING_FALL, (3,), [(0, ((1, 2),))]))
        self.no_line(0, 2, "way", PINGED, put(PING_FALL, (2,), (0, 0))[:3] + ([(0, ((1, 1),)), (1, ((0, 0),))],))
        for thing in ODD_THINGS:
            self.no_line(None, None, "ways", PINGED, put(PING_FALL, (3,), thing))
            if thing != (0, 0):
                self.no_line(None, None, "line", PINGED, put(PING_FALL, (2,), thing))
            self.no_line(None, None, "line", PINGED, ("fall", (0, 1), None, thing))

    def test_fall_of_things_that_are_no_machines(self):
        for thing in ODD_THINGS + [1, [1], (2,), (-1,), (1, 0), (1, 1), (True,), (False, 1), ("1",), (0, 1, 2), (0, None), ((1,),)]:
            if thing != (0,):
                self.no_deed(PINGED, put(PING_FALL, (1,), thing), PING)
                self.no_deed(PINGED, ("fall", thing, None, None), PING)
        for deed in [PING_FALL[:3], PING_FALL + (0,), list(PING_FALL), ("fall", (1,)), ("fall",), ("falls",) + PING_FALL[1:]]:
            self.no_deed(PINGED, deed, PING)

    def test_throw(self):
        told = put(WORLD, (4,), ((0, 0), (2, 0), (0, 2)))
        self.done(told, ("throw", (0, 0, 0)), told)
        self.done(told, ("throw", (1, 0, 0)), thrown(TALK, told, (1, 0, 0)))
        for cut in [(3, 0, 0), (2, 0, 0), (1, 3, 0), (1, 0, 2), (4, 0, 0), (-1, 0, 0), (1, 0), (1, 0, 0, 0), [1, 0, 0],
                    (1, 0, False), (True, 0, 0), (1, 0, None), (1, 0, "0"), None, (), ((1, 0, 0),)] + ODD_THINGS:
            self.no_deed(told, ("throw", cut))
        for deed in [("throw",), ("throw", (1, 0, 0), 0), ["throw", (1, 0, 0)], ("throws", (1, 0, 0)), ("throw", 1, 0, 0)]:
            self.no_deed(told, deed)

    def test_things_of_other_kinds(self):
        for thing in ODD_THINGS:
            self.no_deed(WORLD, thing)
            self.no_deed(WORLD, (thing,))
            self.no_deed(WORLD, (thing, 0))
            self.no_deed(WORLD, (thing, 0, 0))
            self.no_deed(WORLD, (thing, (0,), (0, 0, 0), []))
        for thing in [{}, {"own": 0}, ((("own", 0),),), ("own", ("own", 0)), ("OWN", 0), ("", 0)]:
            self.no_deed(WORLD, thing)


class GoneBack(unittest.TestCase):

    def back(self, cut):
        return unchanged(self, gone_back, TALK, WORLD, cut)

    def test_by_hand(self):
        self.assertEqual(self.back((3, 3, 3)), WORLD)
        self.assertEqual(self.back((0, 0, 0)), (first(TALK), (), ((0,),) * 3, ((),) * 3, ()))
        deeds = (("own", 0), ("come", 0, 0), ("come", 2, 0), ("own", 0))
        self.assertEqual(self.back((2, 1, 1)), (first(TALK), deeds, ((0, 1), (0,), (0,)), ((1,), (0,), (0,)), ((0, 0), (2, 0))))
        self.assertEqual(self.back((1, 1, 0)), (first(TALK), deeds[:2], ((0, 1), (0,), (0,)), ((), (0,), ()), ((0, 0),)))
        self.assertEqual(self.back((1, 3, 2))[2:], (((0, 1), (0, 3), (0, 2)), ((), (0,), (0, 1)), ((0, 0), (2, 0), (1, 1))))

    def test_letters(self):
        # The letter (2, 0) was sent in the cut and waits again; (3, 1) was not, and its number is free.
        back = self.back((1, 2, 0))
        self.assertEqual(now(TALK, back)[1][2], (1, ((0, "b"),)))
        self.assertEqual(RUN_LETTERS[(3, 1)][0], 4)
        self.assertEqual(now(TALK, back)[1][3], (1, ((0, "p"),)))
        again = world_done(TALK, back, ("own", 1))[0]
        self.assertEqual(now(TALK, again)[1][3], (4, ((0, "p"), (1, "q"), (2, "r"), (3, "s"))))

    def test_tuples(self):
        for part in self.back((2, 1, 1)):
            self.assertIs(type(part), tuple)
        for part in self.back((2, 1, 1))[2] + self.back((2, 1, 1))[3]:
            self.assertIs(type(part), tuple)


class Falls(unittest.TestCase):

    def test_choices(self):
        self.assertEqual(unchanged(self, fall_choices, TALK, WORLD, (0,)), ((0, 1, 2, 3), (0, 1, 3), (0, 1, 2, 3)))
        self.assertEqual(fall_choices(TALK, WORLD, (2,)), ((0, 1, 2, 3), (0, 1, 3), (0, 1, 2)))
        self.assertEqual(fall_choices(PING, PINGED, (0,)), ((0, 2, 3), (0, 1, 3)))
        self.assertEqual(fall_choices(PING, PINGED, (1,)), ((0, 2, 3, 4), (0, 1)))
        self.assertEqual(fall_choices(PING, PINGED, (0, 1)), ((0, 2, 3), (0, 1)))

    def test_by_hand(self):
        self.assertEqual(unchanged(self, fall_of, PING, PINGED, (1,)), PING_FALL)
        self.assertEqual(fall_of(PING, PINGED, (0,)), ("fall", (0,), (3, 3), []))
        self.assertEqual(fall_of(TALK, WORLD, (0, 1, 2)), ("fall", (0, 1, 2), (3, 3, 2), []))
        told = fall_of(PING, PINGED, (1,))
        told[3].clear()
        self.assertEqual(fall_of(PING, PINGED, (1,)), PING_FALL)

    def test_a_machine_that_did_not_fall_goes_back_only_as_far_as_letters_make_it(self):
        # Machine 2 alone falls, to 2; nothing that it sent behind it came.
        deed = fall_of(TALK, WORLD, (2,))
        self.assertEqual(deed, ("fall", (2,), (3, 3, 2), []))
        self.assertEqual(ends_of(TALK, world_done(TALK, WORLD, deed)[0]), (3, 3, 2))

    def test_long_worlds(self):
        begin = time.perf_counter()
        form, stand, deeds = crowded()
        world = first_world(form, stand)
        for deed in deeds:
            world = world_done(form, world, deed)[0]
            if deed[0] == "own":
                world = world_done(form, world, ("keep", deed[1]))[0]
        for machines in [(0,), (1, 3), (0, 1, 2, 3)]:
            deed = fall_of(form, world, machines)
            self.assertIs(right_world(form, world_done(form, world, deed)[0]), True)
        self.assertLess(time.perf_counter() - begin, 10)


class OverTheWhole(Asking):

    def is_fall(self, at_work, machines):
        """Ask that the fall that is made goes to the latest line, with ways that show it; tell it."""
        form, world = at_work.form, at_work.world()
        deed = unchanged(self, fall_of, form, world, machines)
        self.assertEqual((type(deed), deed[:2], type(deed[2]), type(deed[3])), (tuple, ("fall", machines), tuple, list))
        choices = at_work.choices(machines)
        self.assertEqual(unchanged(self, fall_choices, form, world, machines), choices)
        self.assertEqual(choices_of(world[2], world[3], ends_of(form, world), machines), choices)
        self.assertEqual(deed[2], at_work.line(machines))
        self.assertEqual(deed[2], latest(form, world[0], world[1], choices)[0])
        self.assertIs(line_asked(form, world[0], world[1], choices, deed[2], deed[3]), True)
        letters = journeys(form, world[0], world[1])
        for m, way in deed[3]:
            self.assertEqual(way_goes(letters, choices, way), len(way))
            self.assertEqual(letters[way[-1]][2], m)
        return deed

    def test_each_deed_leads_to_a_right_world(self):
        kinds = {}
        for chance, at_work, _ in world_walks(16, 100, fall_of, 8):
            form, world = at_work.form, at_work.world()
            tried = at_work.deeds_to_try(chance)
            tried = chance.sample(tried, min(len(tried), 8)) + [self.is_fall(at_work, chance.choice(at_work.groups()))]
            for deed in tried:
                due = at_work.refusal(deed)
                kinds[(deed[0], due and due[0])] = True
                if due is None:
                    behind = at_work.at(world)
                    told = behind.do(deed)
                    self.done(world, deed, behind.world(), form, told)
                else:
                    refused(self, due[0], due[1], world_done, form, world, deed)
        for kind in ("own", "come", "keep", "note", "throw"):
            self.assertIn((kind, None), kinds)
            self.assertIn((kind, NoDeed), kinds)
        for found in [("hear", None), ("tell", None), ("tell", NoWorld), ("fall", None)]:
            self.assertIn(found, kinds)

    def test_from_any_right_world(self):
        back = 0
        for chance, at_work in right_worlds(10, 120):
            form, world = at_work.form, at_work.world()
            self.assertIs(right_world(form, world), True)
            fall = self.is_fall(at_work, chance.choice(at_work.groups()))
            back += ends_of(form, world) != fall[2] and len(fall[3]) > 0
            tried = [fall, ("throw", chance.choice(at_work.cuts()))] + chance.sample(at_work.deeds_to_try(chance), 6)
            for deed in tried:
                due = at_work.refusal(deed)
                behind = at_work.at(world)
                if due is None:
                    told = behind.do(deed)
                    self.done(world, deed, behind.world(), form, told)
                else:
                    refused(self, due[0], due[1], world_done, form, world, deed)
        self.assertGreater(back, 10)

    def test_what_was_told_stays_told_once_and_as_it_was(self):
        many = falls = 0
        for chance, at_work in first_worlds(80):
            form, told, gone = at_work.form, {}, [0] * len(at_work.form[0])
            for deed in walk(chance, at_work, 40, fall_of):
                world, outside = world_done(form, at_work.world(), deed)
                self.assertEqual(outside is not None, deed[0] == "tell")
                if deed[0] == "tell":
                    event = (deed[1], deed[2] + gone[deed[1]])
                    self.assertNotIn(event, told)
                    told[event] = outside[1]
                    many += 1
                if deed[0] == "fall":
                    self.assertEqual(world[4], at_work.world()[4])
                    falls += bool(world[4])
                if deed[0] == "throw":
                    gone = [one + more for one, more in zip(gone, deed[1])]
                words = at_work.at(world).words()
                for m, e in world[4]:
                    self.assertEqual(words[(m, e)], told[(m, e + gone[m])])
                self.assertEqual(len(world[4]), sum(e >= gone[m] for m, e in told))
        self.assertGreater(many, 100)
        self.assertGreater(falls, 50)

    def test_more_fallen_machines_go_back_farther(self):
        moved = 0
        for _, at_work, _ in world_walks(20, 60, fall_of):
            form, world = at_work.form, at_work.world()
            lines = {group: fall_of(form, world, group)[2] for group in at_work.groups()}
            for fewer in lines:
                for more in lines:
                    if set(fewer) < set(more):
                        self.assertTrue(all(one >= other for one, other in zip(lines[fewer], lines[more])))
                        moved += lines[fewer] != lines[more]
                self.assertTrue(all(one >= other for one, other in zip(lines[fewer], all_fall(form, world))))
            self.assertEqual(lines[tuple(range(len(form[0])))], all_fall(form, world))
        self.assertGreater(moved, 100)

    def test_the_all_fall_line_never_falls(self):
        for _, at_work, deed in world_walks(30, 60, fall_of):
            form, ahead = at_work.form, all_fall(at_work.form, at_work.world())
            behind = all_fall(form, world_done(form, at_work.world(), deed)[0])
            if deed[0] == "throw":
                behind = tuple(one + other for one, other in zip(behind, deed[1]))
                self.assertEqual(behind, ahead)
            self.assertTrue(all(one <= other for one, other in zip(ahead, behind)))


if __name__ == "__main__":
    unittest.main()
