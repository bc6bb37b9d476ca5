import unittest

from cutstand.errors import NoForm
from cutstand.forms import answer, into, right_form, sends_of
from helper import ALONE, ODD_THINGS, TALK, put, refused, unchanged

STILL = (0, ())
PAIR = ((0, ()), (1, ()))
THERE = (0, 1, "row")


def one_move(move, roads=(THERE, (1, 0, "heap"))):
    """A form whose machine 0 has just this thing among its moves."""
    return (((0, (move,)), STILL), roads)


class RightForms(unittest.TestCase):

    def right(self, form):
        self.assertIs(unchanged(self, right_form, form), True)

    def test_ordinary(self):
        self.right(TALK)
        self.right(ALONE)

    def test_one_to_four_rules(self):
        for many in (1, 2, 3, 4):
            self.right(((STILL,) * many, ()))

    def test_none_to_eight_roads(self):
        for many in range(9):
            self.right((PAIR, ((1, 0, "heap"),) * many))

    def test_rows_and_heaps_between_all_machines(self):
        for one in range(4):
            for other in range(4):
                if one != other:
                    self.right(((STILL,) * 4, ((one, other, "row"), (one, other, "heap"))))

    def test_none_to_thirty_moves(self):
        for many in (0, 1, 29, 30):
            self.right((((0, tuple((n, "own", n, (), None) for n in range(many))),), ()))

    def test_thirty_moves_in_each_of_four_rules(self):
        moves = tuple((n, "a", 0, (), None) for n in range(30))
        self.right((((0, moves),) * 4, ()))

    def test_none_to_three_sends_one_road_more_than_once(self):
        for many in range(4):
            self.right(one_move((0, "own", 0, ((0, "a"),) * many, None)))

    def test_sends_on_all_roads_that_begin_here(self):
        roads = ((1, 0, "row"), (0, 1, "row"), (1, 0, "row"), (0, 1, "heap"))
        self.right((((0, ((0, "q", 0, ((1, "a"), (3, "z"), (1, "b")), None),)), STILL), roads))

    def test_states_0_and_99(self):
        self.right((((0, ((0, "own", 99, (), None), (99, "own", 0, (), None))),), ()))
        self.right((((99, ()),), ()))

    def test_words_of_one_and_eight_letters_and_all_signs(self):
        for word in (None, "a", "z", "abcdefgh", "zzzzzzzz", "own"):
            self.right(one_move((0, "own", 0, (), word)))
        for sign in "abcdefghijklmnopqrstuvwxyz":
            self.right(one_move((0, sign, 0, ((0, sign),), sign)))

    def test_like_state_or_like_cause_alone(self):
        moves = tuple((state, cause, 0, (), None) for state in (0, 1, 2) for cause in ("own", "a", "b"))
        self.right((((0, moves), (0, moves)), ()))


class WrongForms(unittest.TestCase):

    def wrong(self, word, number, thing):
        refused(self, NoForm, {"word": word, "number": number}, right_form, thing)

    def test_any_thing(self):
        shaped = [((0,), (0,)), ((None,), (None,)), (((),), ((),)), ((1, 2, 3), (4, 5, 6))]
        for thing in ODD_THINGS:
            self.wrong("road" if thing in shaped else "form", 0, thing)

    def test_too_few_and_too_many_rules_and_roads(self):
        self.wrong("form", 0, ((), ()))
        self.wrong("form", 0, ((STILL,) * 5, ()))
        self.wrong("form", 0, (PAIR, (THERE,) * 9))
        self.wrong("form", 0, (PAIR, (THERE,), ()))
        self.wrong("form", 0, (PAIR,))

    def test_lists_for_tuples(self):
        self.wrong("form", 0, [PAIR, (THERE,)])
        self.wrong("form", 0, (list(PAIR), (THERE,)))
        self.wrong("form", 0, (PAIR, [THERE]))
        self.wrong("road", 1, (PAIR, (THERE, list(THERE))))
        self.wrong("rule", 1, ((STILL, list(STILL)), (THERE,)))
        self.wrong("rule", 1, ((STILL, (0, [])), (THERE,)))
        self.wrong("move", 0, one_move([0, "own", 0, (), None]))
        self.wrong("move", 0, one_move((0, "own", 0, [], None)))
        self.wrong("move", 0, one_move((0, "own", 0, ([0, "a"],), None)))

    def test_roads(self):
        faults = [
            (0, 1), (0, 1, "row", 0), (0, 0, "row"), (1, 1, "heap"), (0, 2, "row"), (2, 0, "row"), (-1, 0, "row"),
            (0, -1, "row"), (0, 1, "Row"), (0, 1, "rows"), (0, 1, ""), (0, 1, None), (0, 1, 0), (0, 1, True),
            (0, 1, ("row",)), (False, 1, "row"), (0, True, "row"), (True, 0, "row"), (1, False, "heap"),
            ("0", 1, "row"), (0, None, "row"), ("row", 0, 1), None, 0, "row", (), [], True,
        ]
        for fault in faults:
            self.wrong("road", 0, (PAIR, (fault,)))
            self.wrong("road", 0, (PAIR, (fault, THERE, fault)))
            self.wrong("road", 7, (PAIR, (THERE,) * 7 + (fault,)))

    def test_rules(self):
        faults = [
            (), (0,), (0, (), ()), ((), 0), (-1, ()), (100, ()), (True, ()), (False, ()), ("0", ()), (None, ()),
            (0, None), (0, "ab"), (0, 0), (0, (None,) * 31), (10 ** 19, ()), None, 0, True, "own", [],
            (0, tuple((n, "own", 0, (), None) for n in range(31))),
        ]
        for fault in faults:
            self.wrong("rule", 0, ((fault,), ()))
            self.wrong("rule", 0, ((fault, STILL, fault), ()))
            self.wrong("rule", 3, ((STILL,) * 3 + (fault,), ()))

    def test_moves(self):
        right = (0, "own", 0, ((0, "a"),), "word")
        faults = [None, 0, True, "own", "abcde", (), right[:4], right + (None,), [], (right,)]
        for state in (-1, 100, True, False, "0", None, (0,), 10 ** 19):
            faults.append((state,) + right[1:])
            faults.append(right[:2] + (state,) + right[3:])
        for cause in ("", "A", "ab", "Own", "owns", "hear", "1", "~", " ", "`", "{", None, 0, True, ("own",), ["a"], ("a",)):
            faults.append(right[:1] + (cause,) + right[2:])
        for word in ("", "A", "abcdefghi", "abcdEfgh", "a b", "a1", "-", "a\n", 0, True, False, (), ("a",), ["a"]):
            faults.append(right[:4] + (word,))
        for sends in (None, 0, "", "ab", True, ((0, "a"),) * 4, (None,), ("0a",), (0, "a"), ((0, "a"), None)):
            faults.append(right[:3] + (sends,) + right[4:])
        for send in ((), (0,), (0, "a", 0), (1, "a"), (2, "a"), (-1, "a"), (True, "a"), (False, "a"), ("0", "a"),
                     (None, "a"), (0, ""), (0, "ab"), (0, "A"), (0, "own"), (0, None), (0, 0), ("a", 0), (0, ("a",))):
            faults.append(right[:3] + ((send,),) + right[4:])
            faults.append(right[:3] + (((0, "a"), (0, "b"), send),) + right[4:])
        self.assertIs(right_form(one_move(right)), True)
        for fault in faults:
            self.wrong("move", 0, one_move(fault))
        ahead = tuple((n, "b", 0, (), None) for n in range(29))
        for fault in faults:
            self.wrong("move", 29, (((0, ahead + (fault,)), STILL), (THERE, (1, 0, "heap"))))

    def test_truths_that_are_like_numbers_of_roads(self):
        roads = ((0, 1, "row"), (0, 1, "row"))
        for road in (False, True):
            self.wrong("move", 0, one_move((0, "own", 0, ((road, "a"),), None), roads))

    def test_a_send_on_a_road_of_another_machine(self):
        move = (0, "own", 0, ((0, "a"),), None)
        self.wrong("move", 0, ((STILL, (0, (move,))), (THERE,)))
        self.wrong("move", 0, (((0, (put(move, (3, 0, 0), 1),)), STILL), (THERE, (1, 0, "row"))))

    def test_state_and_cause_of_one_ahead(self):
        moves = ((0, "own", 1, (), None), (0, "a", 1, (), None), (1, "a", 1, (), None))
        self.wrong("move", 1, (((0, (moves[0], moves[0])),), ()))
        self.wrong("move", 3, (((0, moves + ((1, "a", 2, (), "b"),)),), ()))
        self.wrong("move", 3, (((0, moves + ((0, "own", 2, (), "b"),)),), ()))
        self.wrong("move", 6, (((0, moves), (0, moves + (moves[1],))), ()))

    def test_moves_are_counted_through_all_rules(self):
        moves = tuple((n, "own", 0, (), None) for n in range(30))
        for m in range(4):
            rules = tuple((0, moves) for _ in range(4))
            for n in (0, 1, 29):
                self.wrong("move", 30 * m + n, (put(rules, (m, 1, n), None), ()))
        self.wrong("move", 1, (((0, moves[:1]), STILL, (0, (None,))), ()))
        self.wrong("move", 2, (((0, moves[:1]), (0, moves[:1]), STILL, (0, (None,))), ()))

    def test_where_several_are_due_the_first_goes(self):
        bad_move = (0, (None,))
        self.wrong("form", 0, ((None,) * 5, (None,)))
        self.wrong("form", 0, ((None,), (None,) * 9))
        self.wrong("road", 1, ((None, None), (THERE, None, None)))
        self.wrong("road", 0, ((bad_move, None), (None,)))
        self.wrong("rule", 0, ((None, bad_move), ()))
        self.wrong("move", 0, ((bad_move, None), ()))
        self.wrong("rule", 1, ((STILL, None, bad_move), ()))
        self.wrong("rule", 0, (((100, (None,)),), ()))
        self.wrong("move", 1, (((0, ((0, "a", 0, (), None), (0, "a", 0, (), None), None)),), ()))
        self.wrong("move", 0, (((0, (None, (0, "a", 0, (), None), (0, "a", 0, (), None))),), ()))


class Answers(unittest.TestCase):

    def test_a_move_is_found(self):
        self.assertEqual(unchanged(self, answer, TALK, 0, 0, "own"), (1, ((0, "a"), (2, "b"), (0, "c")), "go"))
        self.assertEqual(answer(TALK, 0, 1, "own"), (0, (), None))
        self.assertEqual(answer(TALK, 0, 0, "d"), (7, ((0, "x"),), "heard"))
        self.assertEqual(answer(TALK, 2, 98, "q"), (99, (), "cue"))
        self.assertEqual(answer(TALK, 1, 5, "a"), (6, ((1, "d"), (3, "p")), None))

    def test_a_sign_without_a_move(self):
        self.assertEqual(answer(TALK, 0, 0, "e"), (0, (), None))
        self.assertEqual(answer(TALK, 0, 42, "d"), (42, (), None))
        self.assertEqual(answer(TALK, 1, 99, "o"), (99, (), None))

    def test_own_without_a_move(self):
        self.assertIsNone(answer(TALK, 0, 7, "own"))
        self.assertIsNone(answer(TALK, 2, 99, "own"))
        self.assertIsNone(answer(((STILL,), ()), 0, 0, "own"))

    def test_just_that_kind(self):
        self.assertIs(type(answer(TALK, 0, 0, "own")), tuple)
        self.assertIs(type(answer(TALK, 0, 0, "e")), tuple)


class Roads(unittest.TestCase):

    def test_rising_lists(self):
        self.assertEqual([sends_of(TALK, m) for m in range(3)], [[0, 2], [1, 3], [4]])
        self.assertEqual([into(TALK, m) for m in range(3)], [[1, 4], [0], [2, 3]])

    def test_no_roads(self):
        self.assertEqual((sends_of(ALONE, 0), into(ALONE, 0)), ([], []))

    def test_a_told_list_is_the_askers_own(self):
        for call in (sends_of, into):
            told = unchanged(self, call, TALK, 0)
            self.assertIs(type(told), list)
            ahead = list(told)
            told.append(7)
            told.reverse()
            self.assertEqual(call(TALK, 0), ahead)


if __name__ == "__main__":
    unittest.main()
