"""Trips: from where to where each letter of a run goes, and by which events."""

from cutstand.pasts import events_of, letters_of


def trips(form, base, deeds):
    """For each letter, rising, the tuple (letter, sender, sent, taker, came)."""
    letters = letters_of(form, base, deeds)
    events = events_of(form, deeds)
    told = []
    for letter in sorted(letters):
        road = form[1][letter[0]]
        sent = number_at(events, letters[letter][0])
        came = number_at(events, letters[letter][1])
        told.append((letter, road[0], sent, road[1], came))
    return told


def number_at(events, deed):
    """The number of a deed's event, None where there is no such deed."""
    if deed is None:
        return None
    return events[deed][1]
