"""Trips: from where to where each letter of a run goes, and by which events."""

from cutstand.pasts import events_of, letters_of

# Where a trip has its parts.
LETTER = 0
SENDER = 1
SENT = 2
TAKER = 3
CAME = 4


def trips(form, base, deeds):
    """For each letter, rising, the tuple (letter, sender, sent, taker, came)."""
    letters = letters_of(form, base, deeds)
    events = events_of(form, deeds)
    told = []
    for letter in sorted(letters):
        road = form[1][letter[0]]
        sent = number_at(events, letters[letter][0])
        came = number_at(events, letters[letter][1])
        told.append((letter, road[0], sent, road[1], came))
    return told


def number_at(events, deed):
    """The number of a deed's event, None where there is no such deed."""
    if deed is None:
        return None
    return events[deed][1]


def whole_trips(form, base, deeds):
    """For each letter that is sent and comes in the run its trip."""
    letters = {}
    for trip in trips(form, base, deeds):
        if trip[SENT] is not None and trip[CAME] is not None:
            letters[trip[LETTER]] = trip
    return letters


def came_unsent(letters, cut):
    """Of these whole trips those of letters that came in the cut and were not sent in it."""
    return [trip for trip in letters.values() if trip[CAME] < cut[trip[TAKER]] and trip[SENT] >= cut[trip[SENDER]]]
