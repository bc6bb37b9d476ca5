"""Reading: lines and texts read as that of which they are told; whether it is right is not asked here."""

from cutstand.errors import NoText
from cutstand.kinds import is_sign, is_word

FIGURES = "0123456789"
MOST_FIGURES = 9
# Of letters' numbers, and of how many were sent.
MOST_LONG_FIGURES = 10

PLAIN = ("own", "hear", "come")


def figures_in(word, most):
    """The number of at most so many figures; what is none is refused."""
    if not 1 <= len(word) <= most or not all([figure in FIGURES for figure in word]):
        raise NoText(0)
    if word[0] == "0" and word != "0":
        raise NoText(0)
    return int(word)


def number_in(word):
    """A NUMBER."""
    return figures_in(word, MOST_FIGURES)


def long_in(word):
    """A letter's number, or how many letters were sent."""
    return figures_in(word, MOST_LONG_FIGURES)


def sign_in(word):
    """A sign."""
    if not is_sign(word):
        raise NoText(0)
    return word


def cause_in(word):
    """The word own, or a sign."""
    return word if word == "own" else sign_in(word)


def word_in(word):
    """A word, or None of a dash."""
    if word == "-":
        return None
    if not is_word(word):
        raise NoText(0)
    return word


def order_in(word):
    """The order of a road."""
    if word not in ("row", "heap"):
        raise NoText(0)
    return word


def pair_in(word, between, one_in, other_in):
    """The tuple of two things with a text between."""
    parts = word.partition(between)
    return (one_in(parts[0]), other_in(parts[2]))


def send_in(word):
    """The tuple (road, sign)."""
    return pair_in(word, ":", number_in, sign_in)


def waiting_in(word):
    """The tuple (k, sign)."""
    return pair_in(word, ":", long_in, sign_in)


def event_in(word):
    """The tuple (machine, number)."""
    return pair_in(word, ":", number_in, number_in)


def letter_in(word):
    """The tuple (road, k)."""
    return pair_in(word, ".", number_in, long_in)


def numbers_in(word):
    """The tuple of numbers parted by commas, one at least."""
    return tuple([number_in(part) for part in word.split(",")])


def letters_in(word):
    """The tuple of letters parted by commas, one at least."""
    return tuple([letter_in(part) for part in word.split(",")])


def way_in(word):
    """The tuple (machine, way)."""
    return pair_in(word, ":", number_in, letters_in)


# For each first word: how each word behind it is read, and how further ones are, None where there may be none.
DEED_WORDS = {
    "own": ((number_in,), None),
    "hear": ((number_in, sign_in), None),
    "come": ((letter_in,), None),
    "keep": ((number_in,), None),
    "note": ((number_in, number_in), None),
    "tell": ((number_in, number_in), None),
    "throw": ((number_in,), number_in),
    "fall": ((numbers_in, numbers_in), way_in),
}
FORM_WORDS = {
    "machine": ((number_in,), None),
    "move": ((number_in, cause_in, number_in, word_in), send_in),
    "road": ((number_in, number_in, order_in), None),
}


def values_in(words, readers, further):
    """What the words behind the first one tell; refused is the number of the first one that is not as told."""
    values = []
    for place in range(1, len(words)):
        reader = readers[place - 1] if place <= len(readers) else further
        if reader is None:
            raise NoText(place)
        try:
            values.append(reader(words[place]))
        except NoText:
            raise NoText(place) from None
    if len(words) <= len(readers):
        raise NoText(len(words))
    return values


def first_word(lines, at):
    """The first word of a line, None where the line lacks."""
    return lines[at].split(" ")[0] if at < len(lines) else None


def line_values(lines, at, name, readers, further):
    """What the words of a line of this name tell; a line that lacks or is not as told is refused by its number."""
    if first_word(lines, at) != name:
        raise NoText(at)
    try:
        return values_in(lines[at].split(" "), readers, further)
    except NoText:
        raise NoText(at) from None


def ask_end(lines, many):
    """Refuse a line beyond the last one."""
    if len(lines) > many:
        raise NoText(many)


def read_form(lines):
    """The form of which the lines are told."""
    starts = []
    moves = []
    roads = []
    for at in range(len(lines)):
        name = first_word(lines, at)
        if name not in names_open(starts, roads):
            raise NoText(at)
        values = line_values(lines, at, name, FORM_WORDS[name][0], FORM_WORDS[name][1])
        if name == "machine":
            starts.append(values[0])
            moves.append([])
        elif name == "move":
            moves[-1].append((values[0], values[1], values[2], tuple(values[4:]), values[3]))
        else:
            roads.append(tuple(values))
    if len(starts) == 0:
        raise NoText(0)
    return (tuple([(start, tuple(own)) for start, own in zip(starts, moves)]), tuple(roads))


def names_open(starts, roads):
    """The first words of the lines that may stand behind these machines and roads of a form."""
    if len(roads) > 0:
        return ("road",)
    if len(starts) > 0:
        return ("machine", "move", "road")
    return ("machine",)


def read_stand(lines, machines, roads):
    """The stand of which the lines are told, of so many machines and roads."""
    stand = stand_in(lines, machines, roads)
    ask_end(lines, 1 + roads)
    return stand


def stand_in(lines, machines, roads):
    """The stand of which the first lines are told."""
    states = line_values(lines, 0, "states", (number_in,) * machines, None)
    letters = []
    for road in range(roads):
        values = line_values(lines, 1 + road, "sent", (long_in,), waiting_in)
        letters.append((values[0], tuple(values[1:])))
    return (tuple(states), tuple(letters))


def read_world(lines, machines, roads):
    """The world of which the lines are told, of so many machines and roads."""
    base = stand_in(lines, machines, roads)
    at = 1 + roads
    deeds = []
    while first_word(lines, at) in PLAIN:
        deeds.append(deed_at(lines, at))
        at = at + 1
    kept = own_numbers(lines, at, "kept", machines)
    noted = own_numbers(lines, at + machines, "noted", machines)
    at = at + 2 * machines
    told = line_values(lines, at, "told", (), event_in)
    ask_end(lines, at + 1)
    return (base, tuple(deeds), kept, noted, tuple(told))


def own_numbers(lines, begin, name, machines):
    """For each machine the numbers of its line of this name."""
    return tuple([tuple(line_values(lines, begin + m, name, (), number_in)) for m in range(machines)])


def deed_at(lines, at):
    """The deed of a line, which is refused by its number."""
    try:
        return read_deed(lines[at])
    except NoText:
        raise NoText(at) from None


def read_deed(text):
    """The deed of which the text is told."""
    words = text.split(" ")
    name = words[0]
    if name not in DEED_WORDS:
        raise NoText(0)
    values = values_in(words, DEED_WORDS[name][0], DEED_WORDS[name][1])
    if name == "come":
        return ("come", values[0][0], values[0][1])
    if name == "throw":
        return ("throw", tuple(values))
    if name == "fall":
        return ("fall", values[0], values[1], values[2:])
    return (name,) + tuple(values)
