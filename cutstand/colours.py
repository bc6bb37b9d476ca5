"""Takings by colours: letters that are sent behind the cut are dark, and none of them comes ahead of it."""

from cutstand.cuts import stand_at
from cutstand.errors import NoDeed, NoTaking
from cutstand.kinds import is_tuple_of
from cutstand.pasts import events_of
from cutstand.plain import can, machine_of, run
from cutstand.takings import ask_begin, ask_deeds, ask_seen, is_begin, is_taking_shaped, seen_now, with_begins
from cutstand.trips import trips


def colours_first(form, base):
    """The first taking of a base: no deeds, nothing taken down."""
    return (base, (), tuple([None for rule in form[0]]))


def colours_done(form, taking, deed):
    """The taking behind a deed of any kind; what cannot be done is refused."""
    base = taking[0]
    deeds = taking[1]
    seen = taking[2]
    if is_begin(form, deed):
        ask_begin(seen, deed[1])
        return (base, deeds, seen_now(form, deeds, seen, deed[1]))
    if not can(form, run(form, base, deeds)[0], deed):
        raise NoDeed(0)
    if deed[0] == "come" and (deed[1], deed[2]) in dark_letters(form, taking):
        m = machine_of(form, deed)
        if seen[m] is None:
            seen = seen_now(form, deeds, seen, m)
    return (base, deeds + (deed,), seen)


def dark_letters(form, taking):
    """The letters of a taking that are dark."""
    letters = trips(form, taking[0], taking[1])
    return [letter for letter, sender, sent, taker, came in letters if is_dark(taking[2][sender], sent)]


def is_dark(position, sent):
    """Whether a letter that an event of this number sent is behind its sender's position."""
    return position is not None and sent is not None and sent >= position


def right_colours(form, thing):
    """True of a taking by colours; any other thing is refused by the first fault that is met."""
    if not is_tuple_of(thing, 3) or not is_taking_shaped(form, thing[0], thing[1], thing[2]):
        raise NoTaking("shape", 0)
    ask_deeds(form, thing[0], thing[1])
    ask_seen(form, thing[1], thing[2])
    dark = dark_letters(form, thing)
    for number, event in enumerate(events_of(form, thing[1])):
        deed = thing[1][number]
        if deed[0] == "come" and (deed[1], deed[2]) in dark and is_ahead(event, thing[2]):
            raise NoTaking("dark", number)
    return True


def is_ahead(event, seen):
    """Whether an event's machine was not taken down yet ahead of it."""
    position = seen[event[0]]
    return position is None or event[1] < position


def colours_way(form, taking):
    """A list of deeds that leads to a taking from the first one of its base."""
    return with_begins(form, taking[1], taking[2])


def colours_taken(form, taking):
    """The tuple (cut, stand) of a finished taking, None while it is not finished."""
    if any([position is None for position in taking[2]]):
        return None
    for letter, sender, sent, taker, came in trips(form, taking[0], taking[1]):
        if came is None and not is_dark(taking[2][sender], sent):
            return None
    return (taking[2], stand_at(form, taking[0], taking[1], taking[2]))
