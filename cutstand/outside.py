"""The outside: what a log of a world with falls told it, and a run without falls that tells just the same."""

from cutstand.cuts import deeds_in
from cutstand.errors import CutError, NoRun
from cutstand.falling import world_done
from cutstand.pasts import events_of, pasts
from cutstand.plain import can, outcome
from cutstand.worlds import DEEDS, first_world


class Log:
    """To where the deeds of a log led so far, and what is wanted of them to tell a run without falls."""

    def __init__(self, form, base):
        self.form = form
        self.base = base
        self.world = first_world(form, base)
        # The deeds that were thrown away, and how many events of each machine they are.
        self.gone = []
        self.cut = tuple([0 for rule in form[0]])
        # The words that were told, and their events, counted from the log's base on.
        self.outside = []
        self.events = []

    def lay(self, deed):
        """Do a deed of any kind and lay it behind the log; told is what it told outside. A refusal changes nothing."""
        behind = world_done(self.form, self.world, deed)
        told = behind[1]
        if told is not None:
            self.outside.append(told)
            self.events.append((told[0], deed[2] + self.cut[told[0]]))
        elif deed[0] == "throw":
            self.gone.extend(deeds_in(self.form, self.world[DEEDS], deed[1]))
            self.cut = tuple([gone + position for gone, position in zip(self.cut, deed[1])])
        self.world = behind[0]
        return told


def log_of(form, base, deeds):
    """The log of these deeds of any kinds; what is none is refused."""
    log = Log(form, base)
    for number, deed in enumerate(deeds):
        try:
            log.lay(deed)
        except CutError:
            raise NoRun(number) from None
    return log


def outside_of(form, base, deeds):
    """The list of (machine, word) that a log told the outside."""
    return list(log_of(form, base, deeds).outside)


def plain_run(form, base, deeds):
    """A run from the log's base that tells just what the log told the outside."""
    return run_of(log_of(form, base, deeds))


def run_of(log):
    """A run that tells just what was told outside so far."""
    # A right cut's deeds can be done ahead of all others: what was thrown away and what is left are one run.
    return told_run(log.form, log.base, log.gone + list(log.world[DEEDS]), log.events)


def told_run(form, base, deeds, events):
    """A run that tells just the words of these events, in their order: of each its past and itself."""
    numbers = {}
    for number, event in enumerate(events_of(form, deeds)):
        numbers[event] = number
    before = pasts(form, base, deeds)
    wanted = {}
    for event in events:
        for number in before[numbers[event]] + (numbers[event],):
            wanted[number] = True
    return [deeds[number] for number in wanted]


def outside_asked(form, base, outside, deeds):
    """True of a run from the base that tells just the outside; other things are refused by their number."""
    stand = base
    many = 0
    for number, deed in enumerate(deeds):
        if not can(form, stand, deed):
            raise NoRun(number)
        step = outcome(form, stand, deed)
        stand = step[0]
        if step[1] is not None:
            if many == len(outside) or outside[many] != step[1]:
                raise NoRun(number)
            many = many + 1
    if many < len(outside):
        raise NoRun(len(deeds))
    return True
