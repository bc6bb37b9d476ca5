import time
import unittest

from cutstand.stands import first
from cutstand.trips import trips
from helper import ALONE, MIDST, MIDST_RUN, RUN, TALK, crowded, journeys, some_runs, unchanged


class Trips(unittest.TestCase):

    def test_letters_that_are_sent(self):
        told = unchanged(self, trips, TALK, first(TALK), RUN)
        self.assertEqual(told, [
            ((0, 0), 0, 0, 1, 0), ((0, 1), 0, 0, 1, 1), ((0, 2), 0, 2, 1, None),
            ((1, 0), 1, 0, 0, None), ((1, 1), 1, 1, 0, None),
            ((2, 0), 0, 0, 2, 0),
            ((3, 0), 1, 0, 2, None), ((3, 1), 1, 2, 2, 1), ((3, 2), 1, 2, 2, None), ((3, 3), 1, 2, 2, None),
            ((4, 0), 2, 0, 0, 2),
        ])
        self.assertEqual(trips(TALK, first(TALK), tuple(RUN)), told)

    def test_letters_that_wait_in_the_base(self):
        self.assertEqual(unchanged(self, trips, TALK, MIDST, MIDST_RUN), [
            ((0, 2), 0, None, 1, 0), ((0, 3), 0, None, 1, None),
            ((2, 0), 0, None, 2, 1), ((2, 3), 0, None, 2, 0), ((2, 4), 0, None, 2, None),
            ((3, 8), 1, None, 2, None),
            ((4, 0), 2, None, 0, 0), ((4, 1), 2, None, 0, 2),
            ((4, 2), 2, 1, 0, None), ((4, 3), 2, 2, 0, None),
        ])

    def test_no_deeds_and_no_roads(self):
        self.assertEqual(trips(TALK, first(TALK), []), [])
        self.assertEqual([trip[2:] for trip in trips(TALK, MIDST, ())][:2], [(None, 1, None), (None, 1, None)])
        self.assertEqual(trips(ALONE, first(ALONE), [("own", 0)]), [])

    def test_kinds(self):
        told = trips(TALK, MIDST, MIDST_RUN)
        self.assertIs(type(told), list)
        for trip in told:
            self.assertEqual((type(trip), len(trip), type(trip[0])), (tuple, 5, tuple))

    def test_numbers_rise_beyond_nine(self):
        form = (((0, ((0, "own", 0, ((0, "a"), (0, "b"), (0, "c")), None),)), (0, ())), ((0, 1, "heap"),))
        deeds = [("own", 0)] * 4 + [("come", 0, 11), ("come", 0, 9)]
        told = trips(form, first(form), deeds)
        self.assertEqual([trip[0] for trip in told], [(0, k) for k in range(12)])
        self.assertEqual([trip[2] for trip in told], [0, 0, 0, 1, 1, 1, 2, 2, 2, 3, 3, 3])
        self.assertEqual([trip[4] for trip in told], [None] * 9 + [1, None, 0])

    def test_some_runs(self):
        for _, form, stand, deeds in some_runs(25, 60):
            found = journeys(form, stand, deeds)
            told = unchanged(self, trips, form, stand, deeds)
            self.assertEqual(told, [(letter, *found[letter][:4]) for letter in sorted(found)])

    def test_a_told_list_is_the_askers_own(self):
        told = trips(TALK, first(TALK), RUN)
        kept = list(told)
        told.clear()
        self.assertEqual(trips(TALK, first(TALK), RUN), kept)

    def test_crowded(self):
        begin = time.perf_counter()
        form, stand, deeds = crowded()
        self.assertEqual(len(trips(form, stand, deeds)), 8 * 117 + 600)
        self.assertLess(time.perf_counter() - begin, 5)


if __name__ == "__main__":
    unittest.main()
