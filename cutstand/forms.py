"""Forms: the rules of the machines and the roads between them."""

from cutstand.errors import NoForm
from cutstand.kinds import is_below, is_sign, is_state, is_tuple_of, is_tuple_to, is_whole, is_word

MOST_RULES = 4
MOST_ROADS = 8
MOST_MOVES = 30
MOST_SENDS = 3


def right_form(thing):
    """True of a form; any other thing is refused by the first fault that is met."""
    if not is_form_shaped(thing):
        raise NoForm("form", 0)
    rules = thing[0]
    roads = thing[1]
    for n, road in enumerate(roads):
        if not is_road(road, len(rules)):
            raise NoForm("road", n)
    moves_ahead = 0
    for m, rule in enumerate(rules):
        if not is_rule_shaped(rule):
            raise NoForm("rule", m)
        ask_moves(rule[1], sends_of(thing, m), moves_ahead)
        moves_ahead = moves_ahead + len(rule[1])
    return True


def is_form_shaped(thing):
    """Whether it is a tuple of as many rules and roads as there may be, whatever these are."""
    if not is_tuple_of(thing, 2):
        return False
    return is_tuple_to(thing[0], MOST_RULES) and len(thing[0]) > 0 and is_tuple_to(thing[1], MOST_ROADS)


def is_road(thing, machines):
    """Whether it is a road between two unlike ones of so many machines."""
    if not is_tuple_of(thing, 3):
        return False
    if not is_below(thing[0], machines) or not is_below(thing[1], machines):
        return False
    return thing[0] != thing[1] and thing[2] in ("row", "heap")


def is_rule_shaped(thing):
    """Whether it is a start and as many moves as there may be, whatever these are."""
    return is_tuple_of(thing, 2) and is_state(thing[0]) and is_tuple_to(thing[1], MOST_MOVES)


def ask_moves(moves, own_roads, moves_ahead):
    """Refuse the first thing that is no move on these roads, or that repeats a state and cause."""
    met = {}
    for n, move in enumerate(moves):
        if not is_move(move, own_roads) or (move[0], move[1]) in met:
            raise NoForm("move", moves_ahead + n)
        met[(move[0], move[1])] = True


def is_move(thing, own_roads):
    """Whether it is a move of a machine at which these roads begin."""
    if not is_tuple_of(thing, 5) or not is_state(thing[0]) or not is_state(thing[2]):
        return False
    if thing[1] != "own" and not is_sign(thing[1]):
        return False
    if not is_tuple_to(thing[3], MOST_SENDS) or not all([is_send(send, own_roads) for send in thing[3]]):
        return False
    return thing[4] is None or is_word(thing[4])


def is_send(thing, own_roads):
    """Whether it is a sign for one of these roads."""
    if not is_tuple_of(thing, 2) or not is_whole(thing[0]):
        return False
    return thing[0] in own_roads and is_sign(thing[1])


def answer(form, m, state, cause):
    """What a machine answers at a state: (next, sends, word), or None where it has no move of its own."""
    for move in form[0][m][1]:
        if move[0] == state and move[1] == cause:
            return (move[2], move[3], move[4])
    if cause == "own":
        return None
    return (state, (), None)


def sends_of(form, m):
    """The numbers of the roads that begin at a machine, rising."""
    return [n for n, road in enumerate(form[1]) if road[0] == m]


def into(form, m):
    """The numbers of the roads that end at a machine, rising."""
    return [n for n, road in enumerate(form[1]) if road[1] == m]
