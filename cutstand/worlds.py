"""Worlds: what was done since a base, what of it is kept and noted, and what was told outside."""

from cutstand.choices import choices_of
from cutstand.cuts import ends_of_deeds
from cutstand.errors import NoDeed, NoWorld
from cutstand.kinds import is_numbers, is_rising_below, is_tuple_of
from cutstand.lines import latest
from cutstand.pasts import events_of, pasts
from cutstand.plain import run, steps
from cutstand.stands import right_stand

# Where a world has its parts.
BASE = 0
DEEDS = 1
KEPT = 2
NOTED = 3
TOLD = 4


def first_world(form, base):
    """The first world of a stand: nothing done, and of each machine just 0 kept."""
    return (base, (), tuple([(0,) for rule in form[0]]), tuple([() for rule in form[0]]), ())


def now(form, world):
    """The stand behind the deeds of a world."""
    return run(form, world[BASE], world[DEEDS])[0]


def ends_of(form, world):
    """The tuple of how many events each machine has."""
    return ends_of_deeds(form, world[DEEDS])


def words_in(form, world):
    """For each deed the word that it tells, or None."""
    words = []
    for behind, told in steps(form, world[BASE], world[DEEDS]):
        words.append(None if told is None else told[1])
    return words


def all_fall(form, world):
    """The latest line of the stable positions of all machines."""
    machines = tuple(range(len(form[0])))
    choices = choices_of(world[KEPT], world[NOTED], ends_of(form, world), machines)
    return latest(form, world[BASE], world[DEEDS], choices)[0]


def right_world(form, thing):
    """True of a right world; any other thing is refused by the first fault that is met."""
    if not is_world_shaped(form, thing):
        raise NoWorld(-1, "shape")
    ask_run(form, thing)
    machines = len(form[0])
    if len(thing[KEPT]) != machines:
        raise NoWorld(-1, "kept")
    if len(thing[NOTED]) != machines:
        raise NoWorld(-1, "noted")
    for m, end in enumerate(ends_of(form, thing)):
        if not is_kept(thing[KEPT][m], end):
            raise NoWorld(m, "kept")
        if not is_rising_below(thing[NOTED][m], end):
            raise NoWorld(m, "noted")
    ask_told(form, thing)
    return True


def is_world_shaped(form, thing):
    """Whether it is a tuple of a stand and four tuples, whatever these hold."""
    if not is_tuple_of(thing, 5) or not right_stand(form, thing[BASE]):
        return False
    return all([isinstance(part, tuple) for part in thing[1:]])


def ask_run(form, world):
    """Refuse deeds that are no run from the base."""
    try:
        steps(form, world[BASE], world[DEEDS])
    except NoDeed:
        raise NoWorld(-1, "deed") from None


def is_kept(thing, end):
    """Whether it is a rising tuple of positions of a machine with so many events, the first one 0."""
    return is_rising_below(thing, end + 1) and thing[:1] == (0,)


def ask_told(form, world):
    """Refuse the first told thing that could not have been told where it stands."""
    events = events_of(form, world[DEEDS])
    words = dict(zip(events, words_in(form, world)))
    line = all_fall(form, world)
    before = pasts(form, world[BASE], world[DEEDS])
    ahead = {}
    for thing in world[TOLD]:
        # A truth equals a number to Python, so the kinds are asked ahead of the events.
        if not is_numbers(thing, 2) or thing not in words:
            raise NoWorld(-1, "told")
        if thing in ahead:
            raise NoWorld(thing[0], "twice")
        if words[thing] is None:
            raise NoWorld(thing[0], "word")
        if thing[1] >= line[thing[0]]:
            raise NoWorld(thing[0], "line")
        past = [events[number] for number in before[events.index(thing)]]
        if any([words[event] is not None and event not in ahead for event in past]):
            raise NoWorld(thing[0], "before")
        ahead[thing] = True
