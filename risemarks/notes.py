"""Notes: lists of the lines that a hand must not forget."""

from risemarks.areas import end_of, ended_at


def read_note(lines):
    grant = 0
    area = None
    held = 0
    heard = 0
    for line in lines:
        if line[0] == "took":
            grant = line[1]
            area = line[2]
        elif line[0] == "held":
            held = max(held, line[1])
        elif line[0] == "heard":
            heard = max(heard, line[1])
        elif line[1] == grant:
            area = ended_at(area, min(end_of(area), line[2]))
    return (grant, area, held, heard)


def grant_of(lines):
    return read_note(lines)[0]


def area_of(lines):
    return read_note(lines)[1]


def held_of(lines):
    return read_note(lines)[2]


def heard_of(lines):
    return read_note(lines)[3]


def tooks_of(lines):
    return [line for line in lines if line[0] == "took"]


def greatest_taken(lines):
    return max([line[1] for line in tooks_of(lines)], default=0)


def short_tooks(lines):
    tooks = tooks_of(lines)
    if len(tooks) == 0:
        return []
    last = tooks[-1]
    greatest = max(tooks, key=lambda line: line[1])
    # The last took goes last, since its grant is the one that is read.
    kept = [greatest, last] if greatest[1] > last[1] else [last]
    end = end_of(area_of(lines))
    # The end has a line of its own: it may lie ahead of the area's first, where no area could tell it.
    if end < end_of(last[2]):
        kept.append(("ends", last[1], end))
    return kept


def short(lines):
    kept = short_tooks(lines)
    if held_of(lines) > 0:
        kept.append(("held", held_of(lines)))
    if heard_of(lines) > 0:
        kept.append(("heard", heard_of(lines)))
    return kept
