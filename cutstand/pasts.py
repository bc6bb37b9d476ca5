"""What is before what in a run: events, letters, and the past of each deed."""

from cutstand.plain import machine_of, steps
from cutstand.stands import waits


def events_of(form, deeds):
    """For each deed the tuple (machine, how many of that machine's deeds stand ahead)."""
    counts = [0 for rule in form[0]]
    events = []
    for deed in deeds:
        m = machine_of(form, deed)
        events.append((m, counts[m]))
        counts[m] = counts[m] + 1
    return events


def letters_of(form, stand, deeds):
    """For each letter the numbers of the deeds that sent it and by which it came, None where there is none."""
    letters = {}
    for road in range(len(form[1])):
        for k, sign in waits(stand, road):
            letters[(road, k)] = (None, None)
    ahead = stand
    for number, step in enumerate(steps(form, stand, deeds)):
        deed = deeds[number]
        if deed[0] == "come":
            letter = (deed[1], deed[2])
            letters[letter] = (letters[letter][0], number)
        for letter in sent_between(ahead, step[0]):
            letters[letter] = (number, None)
        ahead = step[0]
    return letters


def sent_between(ahead, behind):
    """The letters that were sent by the stand behind and not yet by the stand ahead."""
    letters = []
    for road in range(len(ahead[1])):
        for k in range(ahead[1][road][0], behind[1][road][0]):
            letters.append((road, k))
    return letters


def right_ahead(form, stand, deeds):
    """For each deed those that are before it at one step: its machine's last one, its letter's sender."""
    # Whether it is a run is asked here first: events are told only of plain deeds.
    letters = letters_of(form, stand, deeds)
    links = [[] for deed in deeds]
    last = {}
    for number, event in enumerate(events_of(form, deeds)):
        if event[0] in last:
            links[number].append(last[event[0]])
        last[event[0]] = number
    for sending, coming in letters.values():
        if sending is not None and coming is not None:
            links[coming].append(sending)
    return links


def pasts(form, stand, deeds):
    """For each deed the rising tuple of the numbers of all deeds before it."""
    told = []
    for links in right_ahead(form, stand, deeds):
        before = list(links)
        for number in links:
            before.extend(told[number])
        told.append(tuple(sorted(set(before))))
    return told
