"""The desk: a world that is told rows, and answers each with a text."""

from cutstand.errors import NoRow, NoRun, NoText
from cutstand.falling import fall_of
from cutstand.forms import right_form
from cutstand.outside import Log, outside_asked, run_of
from cutstand.reading import PLAIN, numbers_in, read_deed, read_form
from cutstand.stands import first
from cutstand.texts import deed_text, in_blanks, letters_text, pairs, world_lines
from cutstand.throwing import thrown_far
from cutstand.worlds import all_fall, ends_of, now

NONE = "-"


class Desk:
    """A form's first world and its log, told rows one behind the other."""

    def __init__(self, lines):
        form = read_form(lines)
        right_form(form)
        self.log = Log(form, first(form))

    def say(self, row):
        """The answer to a row; one that is none is refused, ahead of all else."""
        if row in QUESTIONS:
            reply = QUESTIONS[row]
            return reply(self.log)
        head = row.split(" ")[0]
        if head == "asked":
            return asked_told(self.log, plain_deeds(row))
        if row == "throw":
            return thrown_told(self.log)
        if head == "fall" and len(row.split(" ")) == 2:
            return fallen_told(self.log, machines_of(row))
        return done_told(self.log, deed_of(row))


def deed_of(row):
    """The deed of a row that is its text; any other row is refused."""
    try:
        return read_deed(row)
    except NoText:
        raise NoRow(row) from None


def machines_of(row):
    """The numbers of a row that tells machines alone to fall."""
    try:
        return numbers_in(row.split(" ")[1])
    except NoText:
        raise NoRow(row) from None


def plain_deeds(row):
    """The plain deeds of a row that asks about them."""
    texts = row.partition(" ")[2]
    if texts == NONE:
        return []
    try:
        deeds = [read_deed(text) for text in texts.split(" / ")]
    except NoText:
        raise NoRow(row) from None
    if not all([deed[0] in PLAIN for deed in deeds]):
        raise NoRow(row)
    return deeds


def done_told(log, deed):
    """A deed is done: ok, or the word that is told outside."""
    told = log.lay(deed)
    return "ok" if told is None else in_blanks(["told", told[1]])


def fallen_told(log, machines):
    """These machines fall: to where all go back."""
    # Machines that are none are refused where the fall is done.
    deed = fall_of(log.form, log.world, machines)
    log.lay(deed)
    return in_blanks(("back",) + deed[2])


def thrown_told(log):
    """As much as may be is thrown away: where the base is then."""
    cut = thrown_far(log.form, log.world)
    log.lay(("throw", cut))
    return in_blanks(("base",) + cut)


def asked_told(log, deeds):
    """Whether these deeds are a run from the base that tells what the log told the outside."""
    try:
        outside_asked(log.form, log.base, log.outside, deeds)
    except NoRun as refusal:
        return in_blanks(["no", refusal.number])
    return "yes"


def states_told(log):
    """Each machine's state."""
    return in_blanks(now(log.form, log.world)[0])


def roads_told(log):
    """The letters of each road."""
    return in_slashes([letters_text(road) for road in now(log.form, log.world)[1]])


def line_told(log):
    """The all-fall line."""
    return in_blanks(all_fall(log.form, log.world))


def ends_told(log):
    """How many events each machine has in the world."""
    return in_blanks(ends_of(log.form, log.world))


def world_told(log):
    """The lines of the world."""
    return in_slashes(world_lines(log.world))


def outside_told(log):
    """What the log told the outside."""
    return in_blanks(pairs(log.outside)) if len(log.outside) > 0 else NONE


def run_told(log):
    """A run without falls that tells the same."""
    return in_slashes([deed_text(deed) for deed in run_of(log)])


def in_slashes(texts):
    """Texts parted by slashes, a dash where there are none."""
    return " / ".join(texts) if len(texts) > 0 else NONE


QUESTIONS = {
    "states": states_told,
    "roads": roads_told,
    "line": line_told,
    "now": ends_told,
    "world": world_told,
    "outside": outside_told,
    "run": run_told,
}
