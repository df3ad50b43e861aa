"""Notes: lists of the lines that a hand must not forget."""

from risemarks.areas import end_of, ended_at

# What a note without lines reads.
NOTHING = (0, None, 0, 0)


def read_on(told, line):
    if line[0] == "took":
        return (line[1], line[2], told[2], told[3])
    if line[0] == "held":
        return (told[0], told[1], max(told[2], line[1]), told[3])
    if line[0] == "heard":
        return (told[0], told[1], told[2], max(told[3], line[1]))
    if line[1] != told[0]:
        return told
    return (told[0], ended_at(told[1], min(end_of(told[1]), line[2])), told[2], told[3])


def read_note(lines):
    told = NOTHING
    for line in lines:
        told = read_on(told, line)
    return told


def area_of(lines):
    return read_note(lines)[1]


def held_of(lines):
    return read_note(lines)[2]


def heard_of(lines):
    return read_note(lines)[3]


def tooks_of(lines):
    return [line for line in lines if line[0] == "took"]


def greatest_taken(lines):
    return max([line[1] for line in tooks_of(lines)], default=0)


def short_tooks(lines):
    tooks = tooks_of(lines)
    if len(tooks) == 0:
        return []
    last = tooks[-1]
    greatest = max(tooks, key=lambda line: line[1])
    # The last took goes last, since its grant is the one that is read.
    kept = [greatest, last] if greatest[1] > last[1] else [last]
    end = end_of(area_of(lines))
    # The end has a line of its own: it may lie ahead of the area's first, where no area could tell it.
    if end < end_of(last[2]):
        kept.append(("ends", last[1], end))
    return kept


def short(lines):
    kept = short_tooks(lines)
    if held_of(lines) > 0:
        kept.append(("held", held_of(lines)))
    if heard_of(lines) > 0:
        kept.append(("heard", heard_of(lines)))
    return kept
