import unittest

from cutstand.forms import right_form
from cutstand.stands import first, right_stand, waits
from helper import ALONE, MIDST, ODD_THINGS, TALK, put, unchanged

# One road of each order.
BOTH_ORDERS = (((0, ()), (1, ())), ((0, 1, "row"), (0, 1, "heap")))


def with_road(n, letters):
    return put(((0, 1), ((0, ()), (0, ()))), (1, n), letters)


class First(unittest.TestCase):

    def test_starts_and_empty_roads(self):
        self.assertEqual(unchanged(self, first, TALK), ((0, 5, 99), ((0, ()),) * 5))
        self.assertEqual(first(ALONE), ((3,), ()))

    def test_it_is_a_stand(self):
        for form in (TALK, ALONE, BOTH_ORDERS):
            self.assertIs(right_form(form), True)
            self.assertIs(right_stand(form, first(form)), True)


class RightStands(unittest.TestCase):

    def told(self, answer, form, thing):
        self.assertIs(unchanged(self, right_stand, form, thing), answer, thing)

    def test_letters_that_wait(self):
        self.told(True, TALK, MIDST)

    def test_states(self):
        for states in ((0, 0, 0), (99, 99, 99), (42, 0, 1)):
            self.told(True, TALK, (states, MIDST[1]))
        for state in (-1, 100, True, False, "0", None, (0,), [0], 10 ** 19):
            for m in range(3):
                self.told(False, TALK, put(MIDST, (0, m), state))

    def test_too_many_or_too_few(self):
        self.told(False, TALK, (MIDST[0][:2], MIDST[1]))
        self.told(False, TALK, (MIDST[0] + (0,), MIDST[1]))
        self.told(False, TALK, (MIDST[0], MIDST[1][:4]))
        self.told(False, TALK, (MIDST[0], MIDST[1] + ((0, ()),)))
        self.told(False, TALK, MIDST + ((),))
        self.told(False, TALK, MIDST[:1])
        self.told(False, ALONE, ((3,), ((0, ()),)))
        self.told(False, ALONE, ((), ()))
        self.told(True, ALONE, ((0,), ()))

    def test_lists_for_tuples(self):
        self.told(False, TALK, list(MIDST))
        for place in ((0,), (1,), (1, 0), (1, 0, 1), (1, 0, 1, 0), (1, 2, 1), (1, 1, 1)):
            part = MIDST
            for n in place:
                part = part[n]
            self.told(False, TALK, put(MIDST, place, list(part)))

    def test_row_roads_hold_the_last_ones_sent(self):
        for letters in ((0, ()), (7, ()), (1, ((0, "a"),)), (7, ((6, "a"),)), (7, ((5, "z"), (6, "a"))),
                        (10 ** 9, ((10 ** 9 - 2, "a"), (10 ** 9 - 1, "a")))):
            self.told(True, BOTH_ORDERS, with_road(0, letters))
        for letters in ((7, ((5, "a"),)), (7, ((0, "a"),)), (7, ((4, "a"), (6, "a"))), (7, ((4, "a"), (5, "a"))),
                        (7, ((0, "a"), (6, "a"))), (7, ((6, "a"), (5, "a"))), (7, ((6, "a"), (6, "a")))):
            self.told(False, BOTH_ORDERS, with_road(0, letters))

    def test_heap_roads_hold_any(self):
        for letters in ((7, ((5, "a"),)), (7, ((0, "a"),)), (7, ((4, "a"), (6, "a"))), (7, ((0, "a"), (6, "a"))),
                        (7, tuple((k, "a") for k in range(7))), (10 ** 9, ((0, "a"), (5, "b")))):
            self.told(True, BOTH_ORDERS, with_road(1, letters))

    def test_numbers_on_both_orders(self):
        for n in (0, 1):
            for letters in (
                    (7, ((6, "a"), (5, "a"))), (7, ((6, "a"), (6, "a"))), (7, ((7, "a"),)), (7, ((6, "a"), (7, "a"))),
                    (7, ((8, "a"),)), (0, ((0, "a"),)), (0, ((-1, "a"),)), (1, ((-1, "a"), (0, "a"))), (-1, ()),
                    (True, ((0, "a"),)), (True, ()), (False, ()), (1, ((False, "a"),)), (2, ((True, "a"),)),
                    (2, ((0, "a"), (True, "a"))), ("1", ()), (None, ()), ((), 0), (1, None), (1, "a"), (1, 0),
                    (1, ((0, "a", 0),)), (1, ((0,),)), (1, (0,)), (1, ((("0"), "a"),)), (1, ((None, "a"),)),
                    (1, (0, "a")), (1, ((0, "A"),)), (1, ((0, "ab"),)), (1, ((0, ""),)), (1, ((0, None),)),
                    (1, ((0, True),)), (1, ((0, ("a",)),)), (1, (), ()), (1,), (), None, 0, "a"):
                self.told(False, BOTH_ORDERS, with_road(n, letters))

    def test_the_bounds_of_what_is_handed_in_are_not_asked(self):
        many = 6000
        for n in (0, 1):
            sent = 10 ** 19
            waiting = tuple((k, "a") for k in range(sent - many, sent))
            self.told(True, BOTH_ORDERS, with_road(n, (sent, waiting)))
            self.told(True, BOTH_ORDERS, with_road(n, (sent, ())))
            self.told(False, BOTH_ORDERS, with_road(n, (sent, waiting + ((sent, "a"),))))

    def test_any_thing(self):
        for thing in ODD_THINGS:
            self.told(False, TALK, thing)
            for place in ((0,), (1,), (0, 1), (1, 2), (1, 2, 1), (1, 2, 1, 0), (1, 0, 1, 1)):
                fits = place == (0, 1) and type(thing) is int and thing in (0, 1) or (place, thing) == ((1, 2, 1), ())
                self.told(fits, TALK, put(MIDST, place, thing))


class Waits(unittest.TestCase):

    def test_rising_lists(self):
        self.assertEqual(unchanged(self, waits, MIDST, 0), [(2, "a"), (3, "c")])
        self.assertEqual(waits(MIDST, 1), [])
        self.assertEqual(waits(MIDST, 2), [(0, "b"), (3, "q"), (4, "b")])

    def test_a_told_list_is_the_askers_own(self):
        told = waits(MIDST, 2)
        self.assertIs(type(told), list)
        told.clear()
        self.assertEqual(waits(MIDST, 2), [(0, "b"), (3, "q"), (4, "b")])


if __name__ == "__main__":
    unittest.main()
