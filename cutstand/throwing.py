"""What is thrown away: the part of a world below a cut that no fall can want any more."""

from cutstand.cuts import deeds_beyond, lies_in, stand_at
from cutstand.kinds import is_below
from cutstand.lines import latest
from cutstand.pasts import events_of
from cutstand.trips import came_unsent, whole_trips
from cutstand.worlds import BASE, DEEDS, KEPT, NOTED, TOLD, words_in


def throw_choices(form, world):
    """For each machine its kept positions in which each event with a word is told."""
    bounds = untold_from(form, world)
    told = []
    for own, bound in zip(world[KEPT], bounds):
        told.append(tuple([position for position in own if bound is None or position <= bound]))
    return tuple(told)


def untold_from(form, world):
    """For each machine the number of its first event with a word that is not told, None where there is none."""
    bounds = [None for rule in form[0]]
    for event, word in zip(events_of(form, world[DEEDS]), words_in(form, world)):
        if word is not None and event not in world[TOLD] and bounds[event[0]] is None:
            bounds[event[0]] = event[1]
    return bounds


def may_throw(form, world, cut):
    """Whether the cut may be thrown to, of a tuple with a whole number for each machine."""
    if not all([position in own for position, own in zip(cut, throw_choices(form, world))]):
        return False
    return len(came_unsent(whole_trips(form, world[BASE], world[DEEDS]), cut)) == 0


def thrown_far(form, world):
    """The latest cut that may be thrown to."""
    # A cut may be thrown to just where it is a line of these choices.
    return latest(form, world[BASE], world[DEEDS], throw_choices(form, world))[0]


def thrown(form, world, cut):
    """The world without what lies in a cut that may be thrown to, counted from it on."""
    base = stand_at(form, world[BASE], world[DEEDS], cut)
    deeds = tuple(deeds_beyond(form, world[DEEDS], cut))
    told = [(event[0], event[1] - cut[event[0]]) for event in world[TOLD] if not lies_in(event, cut)]
    return (base, deeds, counted_from(world[KEPT], cut), counted_from(world[NOTED], cut), tuple(told))


def counted_from(parts, cut):
    """For each machine those of its numbers that are not below the cut's, less by it."""
    counted = []
    for own, position in zip(parts, cut):
        counted.append(tuple([number - position for number in own if number >= position]))
    return tuple(counted)


def renamed(cut, deed):
    """The deed as it is named in a world that was thrown to the cut, None where it speaks of what is gone."""
    if deed[0] in ("note", "tell"):
        number = deed[2] - position_in(cut, deed[1])
        return (deed[0], deed[1], number) if number >= 0 else None
    if deed[0] == "fall":
        line = positions_from(deed[2], cut)
        return ("fall", deed[1], line, copied(deed[3])) if min(line) >= 0 else None
    if deed[0] == "throw":
        line = positions_from(deed[1], cut)
        return ("throw", line) if min(line) >= 0 else None
    return deed


def position_in(cut, m):
    """The cut's position of a machine; nothing is gone of what is none."""
    return cut[m] if is_below(m, len(cut)) else 0


def positions_from(line, cut):
    """The positions of a line, less by those of the cut."""
    return tuple([position - gone for position, gone in zip(line, cut)])


def copied(ways):
    """Ways of a line as a list of its own."""
    return list(ways) if isinstance(ways, list) else ways
