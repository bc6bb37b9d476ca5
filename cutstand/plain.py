"""Plain deeds: what can be done at a stand, what comes of it, and runs of them."""

from cutstand.errors import NoDeed
from cutstand.forms import answer
from cutstand.kinds import is_below, is_sign, is_whole
from cutstand.stands import waits


def is_plain(form, thing):
    """Whether any thing is a plain deed of the form."""
    if not isinstance(thing, tuple) or len(thing) not in (2, 3):
        return False
    if len(thing) == 2:
        return thing[0] == "own" and is_below(thing[1], len(form[0]))
    if thing[0] == "hear":
        return is_below(thing[1], len(form[0])) and is_sign(thing[2])
    return thing[0] == "come" and is_below(thing[1], len(form[1])) and is_whole(thing[2])


def machine_of(form, deed):
    """The machine of a plain deed: of a coming, that at which the road ends."""
    if deed[0] == "come":
        return form[1][deed[1]][1]
    return deed[1]


def can(form, stand, thing):
    """Whether any thing is a plain deed that can be done at the stand."""
    if not is_plain(form, thing):
        return False
    if thing[0] == "own":
        return answer(form, thing[1], stand[0][thing[1]], "own") is not None
    if thing[0] == "come":
        return thing[2] in may_come(form, stand, thing[1])
    return True


def may_come(form, stand, road):
    """The numbers of the letters of a road that may come next."""
    waiting = waits(stand, road)
    if form[1][road][2] == "row":
        waiting = waiting[:1]
    return [k for k, sign in waiting]


def done(form, stand, thing):
    """The tuple (stand, told) behind a deed; what cannot be done is refused."""
    if not can(form, stand, thing):
        raise NoDeed(0)
    return outcome(form, stand, thing)


def outcome(form, stand, deed):
    """The tuple (stand, told) behind a deed that can be done."""
    m = machine_of(form, deed)
    reply = answer(form, m, stand[0][m], cause_of(stand, deed))
    states = list(stand[0])
    states[m] = reply[0]
    roads = list(stand[1])
    if deed[0] == "come":
        roads[deed[1]] = less_letter(roads[deed[1]], deed[2])
    for road, sign in reply[1]:
        roads[road] = more_letter(roads[road], sign)
    told = None
    if reply[2] is not None:
        told = (m, reply[2])
    return ((tuple(states), tuple(roads)), told)


def cause_of(stand, deed):
    """What the deed's machine answers: "own", the sign that was said, or the letter's."""
    if deed[0] == "own":
        return "own"
    if deed[0] == "hear":
        return deed[2]
    return dict(waits(stand, deed[1]))[deed[2]]


def less_letter(letters, k):
    """A road's (sent, waiting) where the letter k waits no more."""
    return (letters[0], tuple([letter for letter in letters[1] if letter[0] != k]))


def more_letter(letters, sign):
    """A road's (sent, waiting) where a letter more waits behind all others."""
    return (letters[0] + 1, letters[1] + ((letters[0], sign),))


def run(form, stand, deeds):
    """The tuple (stand, list of what was told) behind all deeds, done one behind the other."""
    now = stand
    words = []
    for behind, told in steps(form, stand, deeds):
        now = behind
        if told is not None:
            words.append(told)
    return (now, words)


def steps(form, stand, deeds):
    """For each deed of a run the tuple (stand, told) behind it; what is no run is refused."""
    behind = []
    now = stand
    for number, deed in enumerate(deeds):
        if not can(form, now, deed):
            raise NoDeed(number)
        step = outcome(form, now, deed)
        now = step[0]
        behind.append(step)
    return behind
