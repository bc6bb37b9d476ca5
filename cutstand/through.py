"""Ways through right cuts: an order of a run's deeds in which the cut's own come first."""

from cutstand.cuts import lies_in
from cutstand.errors import NoCut, NoDeed
from cutstand.kinds import is_below, is_tuple_of, is_whole
from cutstand.pasts import events_of
from cutstand.plain import steps
from cutstand.stands import right_stand


def through(form, stand, deeds, cut):
    """A way (numbers, many) through a right cut."""
    # No deed of a right cut waits for one outside it, so both parts may keep their order.
    events = events_of(form, deeds)
    inside = [number for number, event in enumerate(events) if lies_in(event, cut)]
    outside = [number for number, event in enumerate(events) if not lies_in(event, cut)]
    return (tuple(inside + outside), len(inside))


def way_asked(form, stand, deeds, told, way):
    """True of a way of the run and the stand through which it goes; else refused by the first fault that is met."""
    if not is_way_shaped(way):
        raise NoCut(0, "shape")
    numbers = way[0]
    many = way[1]
    ask_order(form, deeds, numbers)
    if not 0 <= many <= len(numbers):
        raise NoCut(0, "many")
    stands = stands_along(form, stand, [deeds[number] for number in numbers])
    # A truth equals a number to Python, so what was told has to be a stand by its kinds, too.
    if not right_stand(form, told) or told != stands[many]:
        raise NoCut(many, "stand")
    return True


def is_way_shaped(thing):
    """Whether it is a tuple of a tuple of whole numbers and a whole number."""
    if not is_tuple_of(thing, 2) or not isinstance(thing[0], tuple):
        return False
    return all([is_whole(number) for number in thing[0]]) and is_whole(thing[1])


def ask_order(form, deeds, numbers):
    """Refuse numbers that do not have all deeds, those of each machine in their order."""
    events = events_of(form, deeds)
    stood = [0 for rule in form[0]]
    for place, number in enumerate(numbers):
        if not is_below(number, len(events)):
            raise NoCut(place, "order")
        event = events[number]
        if event[1] != stood[event[0]]:
            raise NoCut(place, "order")
        stood[event[0]] = stood[event[0]] + 1
    if len(numbers) < len(events):
        raise NoCut(len(numbers), "order")


def stands_along(form, stand, deeds):
    """The stand at the begin and those behind each deed; the first deed that cannot be done is refused."""
    try:
        behind = steps(form, stand, deeds)
    except NoDeed as refusal:
        raise NoCut(refusal.number, "deed") from None
    return [stand] + [step[0] for step in behind]
