"""What several tests share: forms and stands to ask about, things that are none, and how a refusal is asked."""

import copy


def nested(deep, kind):
    thing = kind(())
    for _ in range(deep - 1):
        thing = kind((thing,))
    return thing


# Things of every kind that anybody may hand in, none of which is right anywhere.
ODD_THINGS = [
    None, True, False, 0, 1, -1, 10 ** 19, -(10 ** 19), "", "a", "own", "form", "a b~", "()",
    (), [], (None,), [None], (True, False), (0, 0), [0, 0], ("a", "b"), ("own",), ("own", True), ("own", "a"),
    ((), ()), [(), ()], ((), []), ([], ()), ((), (), ()), (((),), ((),)), ((None,), (None,)), ((0,), (0,)),
    (((0, ()),), None), ((1, 2, 3), (4, 5, 6)), (0,) * 20000, [0] * 20000,
    nested(30, tuple), nested(30, list), (nested(29, tuple), nested(29, list)),
]

# Three machines; 0 and 1 talk by rows, 2 hears from both by heaps and sends back to 0 by a row.
TALK = (
    (
        (0, (
            (0, "own", 1, ((0, "a"), (2, "b"), (0, "c")), "go"),
            (1, "own", 0, (), None),
            (0, "d", 7, ((0, "x"),), "heard"),
            (1, "e", 1, (), "ee"),
        )),
        (5, (
            (5, "a", 6, ((1, "d"), (3, "p")), None),
            (6, "c", 5, ((1, "e"),), "see"),
            (5, "own", 5, ((3, "q"), (3, "r"), (3, "s")), "abcdefgh"),
        )),
        (99, (
            (99, "b", 98, ((4, "d"),), "bee"),
            (98, "q", 99, (), "cue"),
            (98, "own", 98, ((4, "z"),), None),
        )),
    ),
    ((0, 1, "row"), (1, 0, "row"), (0, 2, "heap"), (1, 2, "heap"), (2, 0, "row")),
)

# One machine, no road.
ALONE = (((3, ((3, "own", 4, (), "up"), (4, "z", 3, (), None))),), ())

# A stand of TALK with letters that wait on rows and heaps.
MIDST = (
    (1, 6, 98),
    ((4, ((2, "a"), (3, "c"))), (1, ()), (6, ((0, "b"), (3, "q"), (4, "b"))), (9, ((8, "q"),)), (2, ((0, "d"), (1, "z")))),
)


def refused(case, error, fields, call, *things):
    """Ask that the call is refused with just this error and these fields, and changes nothing handed in."""
    ahead = copy.deepcopy(things)
    with case.assertRaises(error) as caught:
        call(*things)
    case.assertIs(type(caught.exception), error)
    for name, value in fields.items():
        got = getattr(caught.exception, name)
        case.assertEqual((name, got, type(got)), (name, value, type(value)))
    case.assertEqual(things, ahead)


def unchanged(case, call, *things):
    """Call, ask that nothing handed in has changed, and tell the outcome."""
    ahead = copy.deepcopy(things)
    told = call(*things)
    case.assertEqual(repr(things), repr(ahead))
    return told


def put(thing, place, value):
    """A copy of nested tuples with another value at a place, told by indexes."""
    if not place:
        return value
    parts = list(thing)
    parts[place[0]] = put(parts[place[0]], place[1:], value)
    return tuple(parts)
