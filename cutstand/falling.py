"""Deeds of a world, and falls: how far each machine goes back when some of them fall."""

from cutstand.choices import choices_of
from cutstand.cuts import deeds_in, lies_in
from cutstand.errors import NoDeed
from cutstand.kinds import is_below, is_numbers, is_rising_below, is_tuple_of, is_whole
from cutstand.lines import latest, line_asked
from cutstand.pasts import events_of
from cutstand.plain import can
from cutstand.throwing import may_throw, thrown
from cutstand.worlds import BASE, DEEDS, KEPT, NOTED, TOLD, ends_of, now, right_world, words_in


def world_done(form, world, thing):
    """The tuple (world, told) behind a deed of any kind; what cannot be done is refused."""
    if is_tell(thing):
        return tell_done(form, world, (thing[1], thing[2]))
    if is_fall(form, thing):
        return (fall_done(form, world, thing), None)
    if is_named(thing, "keep", 2):
        return (keep_done(form, world, thing[1]), None)
    if is_named(thing, "note", 3):
        return (note_done(form, world, thing[1], thing[2]), None)
    if is_named(thing, "throw", 2):
        return (throw_done(form, world, thing[1]), None)
    if not can(form, now(form, world), thing):
        raise NoDeed(0)
    return (with_part(world, DEEDS, world[DEEDS] + (thing,)), None)


def is_named(thing, word, many):
    """Whether it is a tuple of so many things, the first one this word."""
    return is_tuple_of(thing, many) and thing[0] == word


def is_tell(thing):
    """Whether it is "tell" and two whole numbers."""
    return is_named(thing, "tell", 3) and is_whole(thing[1]) and is_whole(thing[2])


def is_fall(form, thing):
    """Whether it is the fall of one or more machines, whatever the line and ways are."""
    return is_named(thing, "fall", 4) and is_rising_below(thing[1], len(form[0])) and len(thing[1]) > 0


def with_part(parts, place, part):
    """The tuple with another part at a place."""
    changed = list(parts)
    changed[place] = part
    return tuple(changed)


def tell_done(form, world, event):
    """The tuple (world, told) where an event's word is told outside, if it may be."""
    behind = with_part(world, TOLD, world[TOLD] + (event,))
    right_world(form, behind)
    words = dict(zip(events_of(form, world[DEEDS]), words_in(form, world)))
    return (behind, (event[0], words[event]))


def keep_done(form, world, m):
    """The world where how many events a machine has is kept, if it was not yet."""
    if not is_below(m, len(form[0])):
        raise NoDeed(0)
    return with_number(world, KEPT, m, ends_of(form, world)[m])


def note_done(form, world, m, number):
    """The world where an event of a machine is noted, if it was not yet."""
    if not is_below(m, len(form[0])) or not is_below(number, ends_of(form, world)[m]):
        raise NoDeed(0)
    return with_number(world, NOTED, m, number)


def with_number(world, place, m, number):
    """The world with a number more among a machine's kept or noted ones; one that is there is refused."""
    own = world[place][m]
    if number in own:
        raise NoDeed(0)
    return with_part(world, place, with_part(world[place], m, tuple(sorted(own + (number,)))))


def fall_choices(form, world, machines):
    """The choices of a world when these machines fall."""
    return choices_of(world[KEPT], world[NOTED], ends_of(form, world), machines)


def fall_of(form, world, machines):
    """A fall of these machines that is let by."""
    found = latest(form, world[BASE], world[DEEDS], fall_choices(form, world, machines))
    return ("fall", machines, found[0], found[1])


def fall_done(form, world, deed):
    """The world that went back to the line of a fall, if line and ways are right."""
    line_asked(form, world[BASE], world[DEEDS], fall_choices(form, world, deed[1]), deed[2], deed[3])
    return gone_back(form, world, deed[2])


def gone_back(form, world, cut):
    """The world that went back to a right cut."""
    kept = [tuple([number for number in own if number <= position]) for own, position in zip(world[KEPT], cut)]
    noted = [tuple([number for number in own if number < position]) for own, position in zip(world[NOTED], cut)]
    told = [event for event in world[TOLD] if lies_in(event, cut)]
    return (world[BASE], tuple(deeds_in(form, world[DEEDS], cut)), tuple(kept), tuple(noted), tuple(told))


def throw_done(form, world, cut):
    """The world that was thrown to a cut of any kind, if it may be."""
    if not is_numbers(cut, len(form[0])) or not may_throw(form, world, cut):
        raise NoDeed(0)
    return thrown(form, world, cut)
