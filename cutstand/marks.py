"""Takings by marks: on row roads a mark behind all letters sent so far tells what belongs to the cut."""

from cutstand.cuts import stand_at
from cutstand.errors import NoDeed, NoTaking
from cutstand.forms import sends_of
from cutstand.kinds import is_below, is_tuple_of, is_whole
from cutstand.plain import can, run
from cutstand.stands import waits
from cutstand.takings import ask_begin, ask_deeds, ask_seen, is_begin, is_taking_shaped, seen_now, with_begins
from cutstand.trips import trips


def marks_first(form, base):
    """The first taking of a base: no deeds, nothing taken down, no marks."""
    return (base, (), tuple([None for rule in form[0]]), tuple([None for road in form[1]]))


def marks_done(form, taking, deed):
    """The taking behind a deed of any kind; what cannot be done is refused."""
    if is_begin(form, deed):
        ask_begin(taking[2], deed[1])
        return taken_down(form, taking, deed[1])
    if is_mark_deed(form, deed):
        return mark_come(form, taking, deed[1])
    return plain_come(form, taking, deed)


def is_mark_deed(form, thing):
    """Whether any thing is the deed by which the mark of a road comes."""
    return is_tuple_of(thing, 2) and thing[0] == "mark" and is_below(thing[1], len(form[1]))


def now_of(form, taking):
    """The stand behind the deeds of a taking."""
    return run(form, taking[0], taking[1])[0]


def taken_down(form, taking, m):
    """The taking where a machine is taken down: its position is seen, and a mark goes on each of its roads."""
    now = now_of(form, taking)
    marks = list(taking[3])
    for road in sends_of(form, m):
        marks[road] = (now[1][road][0], False)
    return (taking[0], taking[1], seen_now(form, taking[1], taking[2], m), tuple(marks))


def mark_come(form, taking, road):
    """The taking where the mark of a road comes, if it may."""
    mark = taking[3][road]
    if mark is None or mark[1] or waits_below(now_of(form, taking), road, mark[0]):
        raise NoTaking("mark", road)
    marks = list(taking[3])
    marks[road] = (mark[0], True)
    came = (taking[0], taking[1], taking[2], tuple(marks))
    taker = form[1][road][1]
    if taking[2][taker] is None:
        return taken_down(form, came, taker)
    return came


def waits_below(stand, road, bound):
    """Whether a letter of a number below the bound waits on a road."""
    return any([k < bound for k, sign in waits(stand, road)])


def plain_come(form, taking, deed):
    """The taking where a plain deed is done, if it may; any other thing is refused."""
    if not can(form, now_of(form, taking), deed):
        raise NoDeed(0)
    if deed[0] == "come" and is_behind_mark(taking[3][deed[1]], deed[2]):
        raise NoTaking("ahead", deed[1])
    return (taking[0], taking[1] + (deed,), taking[2], taking[3])


def is_behind_mark(mark, k):
    """Whether a letter stands behind a mark that is on its road."""
    return mark is not None and not mark[1] and k >= mark[0]


def right_marks(form, thing):
    """True of a taking by marks; any other thing is refused by the first fault that is met."""
    if not is_tuple_of(thing, 4) or not is_taking_shaped(form, thing[0], thing[1], thing[2]):
        raise NoTaking("shape", 0)
    if not is_marks_shaped(form, thing[3]):
        raise NoTaking("shape", 0)
    refuse_first("heap", [road[2] != "row" for road in form[1]])
    ask_deeds(form, thing[0], thing[1])
    ask_seen(form, thing[1], thing[2])
    roads = trips_by_road(form, thing)
    refuse_first("sent", [is_sent_wrong(form, thing, road, letters) for road, letters in enumerate(roads)])
    refuse_first("ahead", [is_ahead_wrong(thing[3][road], letters) for road, letters in enumerate(roads)])
    refuse_first("behind", [is_behind_wrong(form, thing, road, letters) for road, letters in enumerate(roads)])
    return True


def is_marks_shaped(form, thing):
    """Whether it is a tuple with None or a mark for each road."""
    if not is_tuple_of(thing, len(form[1])):
        return False
    return all([mark is None or is_mark(mark) for mark in thing])


def is_mark(thing):
    """Whether it is a whole number and a truth."""
    return is_tuple_of(thing, 2) and is_whole(thing[0]) and isinstance(thing[1], bool)


def refuse_first(word, faults):
    """Refuse with the number of the first road that has a fault, where one has."""
    if True in faults:
        raise NoTaking(word, faults.index(True))


def trips_by_road(form, taking):
    """For each road the list of the trips of its letters."""
    roads = [[] for road in form[1]]
    for trip in trips(form, taking[0], taking[1]):
        roads[trip[0][0]].append(trip)
    return roads


def is_sent_wrong(form, taking, road, letters):
    """Whether a road's mark is not as the machine where the road begins, taken down or not, sent it."""
    mark = taking[3][road]
    position = taking[2][form[1][road][0]]
    if mark is None or position is None:
        return mark is not None or position is not None
    inside = [letter for letter, sender, sent, taker, came in letters if sent is not None and sent < position]
    return mark[0] != taking[0][1][road][0] + len(inside)


def is_ahead_wrong(mark, letters):
    """Whether a letter came that stands behind a mark on the road."""
    return any([is_behind_mark(mark, letter[1]) for letter, sender, sent, taker, came in letters if came is not None])


def is_behind_wrong(form, taking, road, letters):
    """Whether a mark came that could not have, by the letters and the position of the machine at the road's end."""
    mark = taking[3][road]
    if mark is None or not mark[1]:
        return False
    position = taking[2][form[1][road][1]]
    if position is None:
        return True
    for letter, sender, sent, taker, came in letters:
        if letter[1] < mark[0] and came is None:
            return True
        if letter[1] >= mark[0] and came is not None and came < position:
            return True
    return False


def marks_way(form, taking):
    """A list of deeds that leads to a taking from the first one of its base."""
    # Each mark comes as late as it can: then its road's end is taken down, and what is ahead of it came.
    due = {}
    for road, mark in enumerate(taking[3]):
        if mark is not None and mark[1]:
            due[road] = mark[0]
    way = []
    for deed in with_begins(form, taking[1], taking[2]):
        if deed[0] == "come" and deed[1] in due and deed[2] >= due[deed[1]]:
            due.pop(deed[1])
            way.append(("mark", deed[1]))
        way.append(deed)
    return way + [("mark", road) for road in due]


def marks_taken(form, taking):
    """The tuple (cut, stand) of a finished taking, None while it is not finished."""
    if any([position is None for position in taking[2]]):
        return None
    # Each road has a mark then, since each machine is taken down.
    if not all([mark[1] for mark in taking[3]]):
        return None
    return (taking[2], stand_at(form, taking[0], taking[1], taking[2]))
