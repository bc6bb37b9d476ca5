"""Wanted choices: either the latest line that has them all, or a way of letters that shows that there is none."""

from cutstand.choices import up_to
from cutstand.errors import NoZigzag
from cutstand.kinds import is_tuple_of
from cutstand.lines import ends_at, is_letters, latest_by, line_asked, many_fit
from cutstand.trips import whole_trips


def extended(form, base, deeds, choices, wanted):
    """The tuple ("line", line, ways) or ("way", way)."""
    return extended_by(whole_trips(form, base, deeds), choices, wanted)


def extended_by(letters, choices, wanted):
    """What is told of wanted choices by these whole trips."""
    found = latest_by(letters, up_to(choices, wanted))
    for m, way in found[1]:
        # A wanted choice is the greatest one left to its machine, so any way to that machine ends at it.
        if m in wanted:
            return ("way", way)
    return ("line", found[0], found[1])


def extended_asked(form, base, deeds, choices, wanted, told):
    """True of what may be told of wanted choices; any other thing is refused by the first fault that is met."""
    left = up_to(choices, wanted)
    if is_line_told(told):
        line_asked(form, base, deeds, left, told[1], told[2])
        ask_wanted(wanted, told[1])
    elif is_way_told(told):
        ask_way(whole_trips(form, base, deeds), left, wanted, told[1])
    else:
        raise NoZigzag(0, "told")
    return True


def is_line_told(thing):
    """Whether it is "line" and two things of any kind."""
    return is_tuple_of(thing, 3) and thing[0] == "line"


def is_way_told(thing):
    """Whether it is "way" and a tuple of tuples of two whole numbers."""
    return is_tuple_of(thing, 2) and thing[0] == "way" and is_letters(thing[1])


def ask_wanted(wanted, line):
    """Refuse a line that lacks a wanted choice."""
    for m in sorted(wanted):
        if line[m] != wanted[m]:
            raise NoZigzag(m, "wanted")


def ask_way(letters, choices, wanted, way):
    """Refuse letters that are no way to a wanted choice."""
    number = many_fit(letters, choices, way)
    if number < len(way) or not any([ends_at(letters, way, m, wanted[m]) for m in wanted]):
        raise NoZigzag(number, "way")
