"""Lines: right cuts of one choice for each machine, and ways of letters that show that none is later."""

from cutstand.errors import NoLine
from cutstand.kinds import is_numbers, is_tuple_of, is_whole
from cutstand.trips import CAME, LETTER, SENDER, SENT, TAKER, came_unsent, whole_trips


def latest(form, base, deeds, choices):
    """The tuple (line, ways): the latest line of the choices, and its ways."""
    return latest_by(whole_trips(form, base, deeds), choices)


def latest_by(letters, choices):
    """The latest line and its ways by these whole trips."""
    line = [own[-1] for own in choices]
    ways = [() for own in choices]
    unsent = came_unsent(letters, line)
    while len(unsent) > 0:
        # No line is later than this at the sender, so none has the sending: the taker goes back to the coming's floor.
        trip = unsent[0]
        taker = trip[TAKER]
        ways[taker] = ways[trip[SENDER]] + (trip[LETTER],)
        line[taker] = floor_of(choices[taker], trip[CAME])
        unsent = came_unsent(letters, line)
    return (tuple(line), [(m, ways[m]) for m in held_back(choices, line)])


def floor_of(own, number):
    """A machine's greatest choice that is not above the number of an event."""
    return max([choice for choice in own if choice <= number])


def held_back(choices, line):
    """The machines whose position in the line is not their greatest choice."""
    return [m for m, own in enumerate(choices) if line[m] != own[-1]]


def line_asked(form, base, deeds, choices, line, ways):
    """True of the latest line and its ways; other things are refused by the first fault that is met."""
    if not is_numbers(line, len(choices)):
        raise NoLine(None, None, "line")
    for m, position in enumerate(line):
        if position not in choices[m]:
            raise NoLine(m, position, "choice")
    letters = whole_trips(form, base, deeds)
    takers = [trip[TAKER] for trip in came_unsent(letters, line)]
    if len(takers) > 0:
        m = min(takers)
        raise NoLine(m, line[m], "letter")
    ask_ways(letters, choices, line, ways)
    return True


def ask_ways(letters, choices, line, ways):
    """Refuse what is not a way to the next choice for each machine that is held back."""
    if not is_ways_shaped(ways) or [m for m, way in ways] != held_back(choices, line):
        raise NoLine(None, None, "ways")
    for m, way in ways:
        choice = min([behind for behind in choices[m] if behind > line[m]])
        if many_fit(letters, choices, way) < len(way) or not ends_at(letters, way, m, choice):
            raise NoLine(m, choice, "way")


def is_ways_shaped(thing):
    """Whether it is a list of tuples of a whole number and letters."""
    if not isinstance(thing, list):
        return False
    return all([is_tuple_of(pair, 2) and is_whole(pair[0]) and is_letters(pair[1]) for pair in thing])


def is_letters(thing):
    """Whether it is a tuple of tuples of two whole numbers."""
    return isinstance(thing, tuple) and all([is_numbers(letter, 2) for letter in thing])


def many_fit(letters, choices, way):
    """How many letters of a way stand where they may, up to the first one that may not."""
    ahead = None
    for number, letter in enumerate(way):
        if letter not in letters or not may_stand(choices, ahead, letters[letter]):
            return number
        ahead = letters[letter]
    return len(way)


def may_stand(choices, ahead, trip):
    """Whether a letter may stand in a way behind another one, or first where none is ahead."""
    own = choices[trip[SENDER]]
    if ahead is None:
        return trip[SENT] >= own[-1]
    return trip[SENDER] == ahead[TAKER] and trip[SENT] >= floor_of(own, ahead[CAME])


def ends_at(letters, way, m, choice):
    """Whether the last letter of a way comes at the machine below the choice."""
    if len(way) == 0:
        return False
    trip = letters[way[-1]]
    return trip[TAKER] == m and trip[CAME] < choice
