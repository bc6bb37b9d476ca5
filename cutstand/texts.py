"""Texts: forms, stands, worlds and deeds written in lines of words."""

from cutstand.worlds import BASE, DEEDS, KEPT, NOTED, TOLD


def form_lines(form):
    """The lines of a form: each machine with its moves, then the roads."""
    lines = []
    for start, moves in form[0]:
        lines.append(in_blanks(["machine", start]))
        for move in moves:
            lines.append(move_line(move))
    for one, other, order in form[1]:
        lines.append(in_blanks(["road", one, other, order]))
    return lines


def move_line(move):
    """The line of a move."""
    word = "-" if move[4] is None else move[4]
    return in_blanks(["move", move[0], move[1], move[2], word] + pairs(move[3]))


def stand_lines(stand):
    """The lines of a stand: the states, then the letters of each road."""
    return [in_blanks(("states",) + stand[0])] + [in_blanks(["sent", letters_text(road)]) for road in stand[1]]


def letters_text(road):
    """How many letters were sent on a road, and those that wait."""
    return in_blanks([road[0]] + pairs(road[1]))


def world_lines(world):
    """The lines of a world: its base, its deeds, what is kept, noted and told."""
    lines = stand_lines(world[BASE]) + [deed_text(deed) for deed in world[DEEDS]]
    lines.extend([in_blanks(("kept",) + own) for own in world[KEPT]])
    lines.extend([in_blanks(("noted",) + own) for own in world[NOTED]])
    lines.append(in_blanks(["told"] + pairs(world[TOLD])))
    return lines


def deed_text(deed):
    """The text of a deed."""
    if deed[0] == "come":
        return in_blanks(["come", letter_text(deed[1], deed[2])])
    if deed[0] == "throw":
        return in_blanks(("throw",) + deed[1])
    if deed[0] == "fall":
        ways = [pair_text(m, in_commas([letter_text(road, k) for road, k in way])) for m, way in deed[3]]
        return in_blanks(["fall", in_commas(deed[1]), in_commas(deed[2])] + ways)
    return in_blanks(deed)


def in_blanks(parts):
    """Numbers and texts, parted by blanks."""
    return " ".join([str(part) for part in parts])


def in_commas(parts):
    """Numbers and texts, parted by commas."""
    return ",".join([str(part) for part in parts])


def pairs(parts):
    """For each of two things their text with a colon between."""
    return [pair_text(one, other) for one, other in parts]


def pair_text(one, other):
    """Two things with a colon between."""
    return f"{one}:{other}"


def letter_text(road, k):
    """The text of a letter."""
    return f"{road}.{k}"
