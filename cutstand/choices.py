"""Choices: the positions to which each machine can go back."""


def stable(kept, noted, many):
    """The rising tuple of the positions that are kept, or that noted events lead to from a kept one."""
    told = []
    for position in range(many + 1):
        ahead = position - 1
        if position in kept or (ahead in told and ahead in noted):
            told.append(position)
    return tuple(told)


def choices_of(kept, noted, many, fallen):
    """The choices when these machines fall: the others have how many events they have as one, too."""
    told = []
    for m, end in enumerate(many):
        own = stable(kept[m], noted[m], end)
        if m not in fallen and end not in own:
            own = own + (end,)
        told.append(own)
    return tuple(told)


def up_to(choices, wanted):
    """The choices without those above the wanted ones."""
    told = []
    for m, own in enumerate(choices):
        told.append(tuple([choice for choice in own if m not in wanted or choice <= wanted[m]]))
    return tuple(told)
