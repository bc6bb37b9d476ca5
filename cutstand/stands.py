"""Stands: each machine's state, and the letters of each road."""

from cutstand.kinds import is_below, is_rising, is_sign, is_state, is_tuple_of, is_whole


def first(form):
    """The stand at first: each machine at its start, nothing sent."""
    states = tuple([rule[0] for rule in form[0]])
    roads = tuple([(0, ()) for road in form[1]])
    return (states, roads)


def right_stand(form, thing):
    """Whether any thing is a stand of the form."""
    if not is_tuple_of(thing, 2):
        return False
    return right_states(form, thing[0]) and right_roads(form, thing[1])


def right_states(form, thing):
    """Whether it is a tuple with a state for each machine."""
    return is_tuple_of(thing, len(form[0])) and all([is_state(state) for state in thing])


def right_roads(form, thing):
    """Whether it is a tuple with letters as they may be for each road."""
    if not is_tuple_of(thing, len(form[1])):
        return False
    return all([right_letters(road[2], letters) for road, letters in zip(form[1], thing)])


def right_letters(order, thing):
    """Whether it is (sent, waiting) as it may be on a road of this order."""
    if not is_tuple_of(thing, 2) or not is_whole(thing[0]) or thing[0] < 0 or not isinstance(thing[1], tuple):
        return False
    sent = thing[0]
    if not all([is_letter(letter, sent) for letter in thing[1]]):
        return False
    numbers = [letter[0] for letter in thing[1]]
    if order == "row":
        return numbers == list(range(sent - len(numbers), sent))
    return is_rising(numbers)


def is_letter(thing, sent):
    """Whether it is (k, sign), of one of the letters that were sent."""
    return is_tuple_of(thing, 2) and is_below(thing[0], sent) and is_sign(thing[1])


def waits(stand, road):
    """The letters (k, sign) that wait on a road, rising."""
    return list(stand[1][road][1])
