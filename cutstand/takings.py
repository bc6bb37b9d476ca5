"""What takings by marks and by colours share: a base, the deeds done since, and what is seen of each machine."""

from cutstand.cuts import ends_of_deeds
from cutstand.errors import NoDeed, NoTaking
from cutstand.kinds import is_below, is_tuple_of, is_whole
from cutstand.pasts import events_of
from cutstand.plain import steps
from cutstand.stands import right_stand


def is_taking_shaped(form, base, deeds, seen):
    """Whether these are a stand, a tuple of any things, and for each machine None or a whole number."""
    return right_stand(form, base) and isinstance(deeds, tuple) and is_seen_shaped(form, seen)


def is_seen_shaped(form, thing):
    """Whether it is a tuple with None or a whole number for each machine."""
    if not is_tuple_of(thing, len(form[0])):
        return False
    return all([position is None or is_whole(position) for position in thing])


def ask_deeds(form, base, deeds):
    """Refuse the first of these things that is no plain deed, or cannot be done where its turn comes."""
    try:
        steps(form, base, deeds)
    except NoDeed as refusal:
        raise NoTaking("deed", refusal.number) from None


def ask_seen(form, deeds, seen):
    """Refuse the first position that its machine does not have."""
    ends = ends_of_deeds(form, deeds)
    for m, position in enumerate(seen):
        if position is not None and not 0 <= position <= ends[m]:
            raise NoTaking("seen", m)


def is_begin(form, thing):
    """Whether any thing is the deed by which a machine is taken down."""
    return is_tuple_of(thing, 2) and thing[0] == "begin" and is_below(thing[1], len(form[0]))


def ask_begin(seen, m):
    """Refuse to take a machine down twice."""
    if seen[m] is not None:
        raise NoTaking("seen", m)


def seen_now(form, deeds, seen, m):
    """What is seen where a machine is taken down behind these deeds."""
    now = list(seen)
    now[m] = ends_of_deeds(form, deeds)[m]
    return tuple(now)


def with_begins(form, deeds, seen):
    """The list of these deeds in which each machine that is taken down begins at its position."""
    way = []
    for deed, event in zip(deeds, events_of(form, deeds)):
        if seen[event[0]] == event[1]:
            way.append(("begin", event[0]))
        way.append(deed)
    for m, end in enumerate(ends_of_deeds(form, deeds)):
        if seen[m] == end:
            way.append(("begin", m))
    return way
