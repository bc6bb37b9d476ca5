import random
import unittest

from cutstand.choices import choices_of, stable, up_to
from helper import unchanged


class Stable(unittest.TestCase):

    def is_told(self, kept, noted, many, told):
        self.assertEqual(repr(unchanged(self, stable, kept, noted, many)), repr(told))

    def test_kept_alone(self):
        self.is_told((0,), (), 0, (0,))
        self.is_told((0,), (), 3, (0,))
        self.is_told((0, 2, 3), (), 3, (0, 2, 3))
        self.is_told((0, 1, 5), (), 9, (0, 1, 5))

    def test_all_noted(self):
        self.is_told((0,), (0, 1, 2), 3, (0, 1, 2, 3))
        self.is_told((0, 2), (0, 1, 2), 3, (0, 1, 2, 3))

    def test_gaps(self):
        self.is_told((0,), (1, 2), 3, (0,))
        self.is_told((0,), (0, 2), 3, (0, 1))
        self.is_told((0, 2), (0, 2), 4, (0, 1, 2, 3))
        self.is_told((0, 3), (1, 2), 4, (0, 3))
        self.is_told((0, 3), (1, 3), 4, (0, 3, 4))
        self.is_told((0, 1), (1, 2, 4, 5), 6, (0, 1, 2, 3))
        self.is_told((0, 5), (0, 1, 4, 5), 6, (0, 1, 2, 5, 6))

    def test_none_beyond_the_end(self):
        self.is_told((0,), (0,), 1, (0, 1))
        self.is_told((0, 1), (), 1, (0, 1))

    def test_against_the_words(self):
        for seed in range(300):
            chance = random.Random(seed)
            many = chance.randint(0, 12)
            kept = (0,) + tuple(p for p in range(1, many + 1) if chance.random() < 0.3)
            noted = tuple(e for e in range(many) if chance.random() < 0.6)
            told = tuple(p for p in range(many + 1)
                         if any(q <= p and all(e in noted for e in range(q, p)) for q in kept))
            self.is_told(kept, noted, many, told)

    def test_two_hundred(self):
        self.is_told((0,), tuple(range(200)), 200, tuple(range(201)))


class ChoicesOf(unittest.TestCase):

    kept, noted, many = ((0, 2), (0,), (0, 4), (0,)), ((0,), (), (), (0, 1)), (3, 2, 4, 0)

    def is_told(self, fallen, told):
        self.assertEqual(repr(unchanged(self, choices_of, self.kept, self.noted, self.many, fallen)), repr(told))

    def test_none_falls(self):
        self.is_told((), ((0, 1, 2, 3), (0, 2), (0, 4), (0,)))

    def test_some_fall(self):
        self.is_told((0,), ((0, 1, 2), (0, 2), (0, 4), (0,)))
        self.is_told((1,), ((0, 1, 2, 3), (0,), (0, 4), (0,)))
        self.is_told((2, 3), ((0, 1, 2, 3), (0, 2), (0, 4), (0,)))
        self.is_told((3, 1), ((0, 1, 2, 3), (0,), (0, 4), (0,)))

    def test_all_fall(self):
        self.is_told((0, 1, 2, 3), ((0, 1, 2), (0,), (0, 4), (0,)))

    def test_one_machine(self):
        self.assertEqual(choices_of(((0,),), ((),), (5,), ()), ((0, 5),))
        self.assertEqual(choices_of(((0,),), ((),), (5,), (0,)), ((0,),))
        self.assertEqual(choices_of(((0,),), ((0, 1, 2, 3, 4),), (5,), ()), ((0, 1, 2, 3, 4, 5),))


class UpTo(unittest.TestCase):

    choices = ((0, 1, 4), (0,), (0, 2, 3))

    def is_told(self, wanted, told):
        self.assertEqual(repr(unchanged(self, up_to, self.choices, wanted)), repr(told))

    def test_none_wanted(self):
        self.is_told({}, self.choices)

    def test_some_wanted(self):
        self.is_told({0: 4}, self.choices)
        self.is_told({0: 1}, ((0, 1), (0,), (0, 2, 3)))
        self.is_told({0: 0}, ((0,), (0,), (0, 2, 3)))
        self.is_told({2: 2, 0: 1}, ((0, 1), (0,), (0, 2)))
        self.is_told({2: 0, 1: 0, 0: 0}, ((0,), (0,), (0,)))


if __name__ == "__main__":
    unittest.main()
