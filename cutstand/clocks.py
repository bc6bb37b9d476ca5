"""Clocks: how much of each machine a deed knows, and what is before what by them alone."""

from cutstand.pasts import events_of, right_ahead


def clocks(form, stand, deeds):
    """For each deed the tuple of how many deeds of each machine are before it or are it."""
    links = right_ahead(form, stand, deeds)
    told = []
    for number, event in enumerate(events_of(form, deeds)):
        clock = [0 for rule in form[0]]
        for other in links[number]:
            clock = [max(mine, theirs) for mine, theirs in zip(clock, told[other])]
        clock[event[0]] = event[1] + 1
        told.append(tuple(clock))
    return told


def is_before(events, deed_clocks, one, other):
    """Whether the deed number one is before the deed number other, by events and clocks of their run."""
    event = events[one]
    return one != other and event[1] < deed_clocks[other][event[0]]
