"""The least that leads from one film to another one."""

from cutroom.errors import TooLong
from cutroom.rows import film, least_of

MOST_HELD = 200


def checked_films(old, new):
    films = (film(old), film(new))
    if any([len(frames) > MOST_HELD for frames in films]):
        raise TooLong("a row has more than 200 frames")
    return films


def most_kept(ones, others):
    # The line numbered i has at j how many can be kept of the ones ahead of i and the others ahead of j.
    lines = [[0] * (len(others) + 1)]
    for frame in ones:
        above = lines[-1]
        line = [0]
        for place, other in enumerate(others):
            line.append(above[place] + 1 if frame == other else max(above[place + 1], line[place]))
        lines.append(line)
    return lines


def places_kept(ones, others):
    # The two places of each frame that is kept, and at last those of both ends.
    lines = most_kept(ones, others)
    here = len(ones)
    there = len(others)
    told = [(here, there)]
    while lines[here][there] > 0:
        if ones[here - 1] == others[there - 1]:
            here -= 1
            there -= 1
            told.append((here, there))
        elif lines[here - 1][there] == lines[here][there]:
            here -= 1
        else:
            there -= 1
    return list(reversed(told))


def changes(old, new):
    ones, others = checked_films(old, new)
    told = []
    here = 0
    there = 0
    # All ahead of a kept frame is as in the new row by then, so that its place there is that of the deeds.
    for place, goal in places_kept(ones, others):
        if here < place:
            told.append(("out", there, least_of(ones[here:place])))
        if there < goal:
            told.append(("put", there, least_of(others[there:goal])))
        here = place + 1
        there = goal + 1
    return told


def frames_kept(old, new):
    ones, others = checked_films(old, new)
    return most_kept(ones, others)[-1][-1]
