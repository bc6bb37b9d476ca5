"""Cuts: how many of each machine's first events are in, and what stands there."""

from cutstand.clocks import clocks
from cutstand.errors import NoCut
from cutstand.kinds import is_numbers
from cutstand.pasts import events_of
from cutstand.plain import run
from cutstand.trips import TAKER, came_unsent, whole_trips


def right_cut(form, stand, deeds, thing):
    """True of a right cut of the run; any other thing is refused by the first fault that is met."""
    if not is_numbers(thing, len(form[0])):
        raise NoCut(0, "shape")
    ends = ends_of_deeds(form, deeds)
    for m, position in enumerate(thing):
        if not 0 <= position <= ends[m]:
            raise NoCut(m, "far")
    takers = [trip[TAKER] for trip in came_unsent(whole_trips(form, stand, deeds), thing)]
    if len(takers) > 0:
        raise NoCut(min(takers), "came")
    return True


def positions(form, events):
    """The tuple of how many of these events each machine has."""
    counts = [0 for rule in form[0]]
    for m, number in events:
        counts[m] = counts[m] + 1
    return tuple(counts)


def ends_of_deeds(form, deeds):
    """The tuple of how many events each machine has by these deeds."""
    return positions(form, events_of(form, deeds))


def lies_in(event, cut):
    """Whether an event is among the first ones that are in the cut."""
    return event[1] < cut[event[0]]


def deeds_in(form, deeds, cut):
    """The list of the deeds whose events lie in the cut."""
    return [deed for deed, event in zip(deeds, events_of(form, deeds)) if lies_in(event, cut)]


def deeds_beyond(form, deeds, cut):
    """The list of the deeds whose events do not lie in the cut."""
    return [deed for deed, event in zip(deeds, events_of(form, deeds)) if not lies_in(event, cut)]


def stand_at(form, stand, deeds, cut):
    """The stand of a right cut."""
    # On each road one machine sends, so a right cut's deeds alone send and find the same letters as in the run.
    return run(form, stand, deeds_in(form, deeds, cut))[0]


def both(one, other):
    """The tuple of the lesser positions."""
    return tuple([min(mine, theirs) for mine, theirs in zip(one, other)])


def either(one, other):
    """The tuple of the greater positions."""
    return tuple([max(mine, theirs) for mine, theirs in zip(one, other)])


def least_with(form, stand, deeds, events):
    """The least right cut that has all these events."""
    cut = tuple([0 for rule in form[0]])
    # A deed's clock is the least right cut that has it: itself and its past.
    for event, clock in zip(events_of(form, deeds), clocks(form, stand, deeds)):
        if event in events:
            cut = either(cut, clock)
    return cut


def greatest_without(form, stand, deeds, events):
    """The greatest right cut that has none of these events."""
    times = clocks(form, stand, deeds)
    unaware = [event for event, clock in zip(events_of(form, deeds), times) if not knows_any(clock, events)]
    return positions(form, unaware)


def knows_any(clock, events):
    """Whether one of these events is the clock's deed or before it."""
    return any([lies_in(event, clock) for event in events])
