"""Numbers for choices: by right ones each choice stands in a line, which any number finds."""

from cutstand.cuts import ends_of_deeds
from cutstand.errors import NoNumbers
from cutstand.kinds import is_tuple_of, is_whole
from cutstand.lines import floor_of
from cutstand.pasts import events_of, letters_of
from cutstand.trips import CAME, SENDER, SENT, TAKER, whole_trips
from cutstand.wanted import extended_by


def line_by(choices, numbers, number):
    """The cut of each machine's least choice whose number is this one or more, its greatest one where none is."""
    line = []
    for own, bars in zip(choices, numbers):
        reached = [choice for choice, bar in zip(own, bars) if bar >= number]
        line.append(min(reached, default=own[-1]))
    return tuple(line)


def numbers_of(form, base, deeds, choices):
    """The tuple ("numbers", numbers) of the least right ones, or ("useless", machine, choice, way)."""
    letters = whole_trips(form, base, deeds)
    useless = first_useless(letters, choices)
    if useless is not None:
        return useless
    return ("numbers", least_numbers(letters, choices))


def first_useless(letters, choices):
    """The tuple ("useless", machine, choice, way) of the first choice that stands in no line, None where all do."""
    for m, own in enumerate(choices):
        for choice in own:
            told = extended_by(letters, choices, {m: choice})
            if told[0] == "way":
                return ("useless", m, choice, told[1])
    return None


def least_numbers(letters, choices):
    """The least right numbers of choices none of which is useless."""
    numbers = [list(range(len(own))) for own in choices]
    links = [floors_of(choices, trip) for trip in letters.values()]
    # Each number is raised only where right ones have it so; that ends, since there are right ones.
    raised = True
    while raised:
        raised = False
        for sender, sent_at, taker, came_at in links:
            bound = numbers[sender][sent_at]
            if numbers[taker][came_at] < bound:
                raise_from(numbers[taker], came_at, bound)
                raised = True
    return tuple([tuple(own) for own in numbers])


def floors_of(choices, trip):
    """The tuple (sender, place, taker, place): where among its machine's choices each event's floor stands."""
    sender = trip[SENDER]
    taker = trip[TAKER]
    sent_at = choices[sender].index(floor_of(choices[sender], trip[SENT]))
    came_at = choices[taker].index(floor_of(choices[taker], trip[CAME]))
    return (sender, sent_at, taker, came_at)


def raise_from(own, place, bound):
    """Raise the number at a place of a machine's own to the bound, and those behind it so that they rise."""
    own[place] = bound
    for behind in range(place + 1, len(own)):
        own[behind] = max(own[behind], own[behind - 1] + 1)


def numbers_asked(form, base, deeds, choices, numbers):
    """True of right numbers; any other thing is refused by the first fault that is met."""
    if not is_numbers_shaped(choices, numbers):
        raise NoNumbers(None, None)
    for m, own in enumerate(numbers):
        for place in range(1, len(own)):
            if own[place] <= own[place - 1]:
                raise NoNumbers(m, choices[m][place])
    for trip in whole_trips(form, base, deeds).values():
        ask_trip(choices, numbers, trip)
    return True


def is_numbers_shaped(choices, thing):
    """Whether it is a tuple with, for each machine, a tuple of a whole number from 0 on for each choice."""
    if not is_tuple_of(thing, len(choices)):
        return False
    for own, numbers in zip(choices, thing):
        if not is_tuple_of(numbers, len(own)) or not all([is_whole(number) and number >= 0 for number in numbers]):
            return False
    return True


def ask_trip(choices, numbers, trip):
    """Refuse numbers by which a letter leads out of a line."""
    sender = trip[SENDER]
    taker = trip[TAKER]
    if trip[CAME] < choices[taker][-1] and trip[SENT] >= choices[sender][-1]:
        raise NoNumbers(sender, choices[sender][-1])
    floors = floors_of(choices, trip)
    if numbers[taker][floors[3]] < numbers[sender][floors[1]]:
        raise NoNumbers(taker, choices[taker][floors[3]])


def orderly(form, base, deeds, wished):
    """The tuple (choices, numbers) of orderly keeping along a run with wished choices."""
    letters = letters_of(form, base, deeds)
    has = [0 for rule in form[0]]
    kept = [{0: 0} for rule in form[0]]
    borne = []
    for deed, event in zip(deeds, events_of(form, deeds)):
        m = event[0]
        bears = letter_bears(letters, borne, deed)
        if bears > has[m]:
            has[m] = bears
            kept[m][event[1]] = bears
        borne.append(has[m])
        if event[1] + 1 in wished[m]:
            has[m] = has[m] + 1
            kept[m][event[1] + 1] = has[m]
    last = max(has) + 1
    for m, end in enumerate(ends_of_deeds(form, deeds)):
        kept[m][end] = last
    choices = tuple([tuple(sorted(own)) for own in kept])
    return (choices, tuple([tuple([own[choice] for choice in sorted(own)]) for own in kept]))


def letter_bears(letters, borne, deed):
    """The number that the letter bears which comes by a deed: 0 where none does, or it waited in the base."""
    if deed[0] != "come":
        return 0
    sending = letters[(deed[1], deed[2])][0]
    if sending is None:
        return 0
    return borne[sending]
