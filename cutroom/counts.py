"""What rows show of reels, and what they don't."""

from cutroom.pulls import pulls
from cutroom.rows import BLACK, film


def frames_of_reels(row):
    return [frame for frame in film(row) if frame != BLACK]


def often(things):
    # How often each thing is there.
    told = {}
    for thing in things:
        told[thing] = told.get(thing, 0) + 1
    return told


def reels_in(row):
    return [name for name, many in how_many(row)]


def how_many(row):
    return sorted(often([name for name, number in frames_of_reels(row)]).items())


def black_in(row):
    return film(row).count(BLACK)


def seen_often(row):
    times = sorted(often(frames_of_reels(row)).items())
    return [frame + (many,) for frame, many in times if many > 1]


def shared(one, other):
    return sorted(set(frames_of_reels(one)) & set(frames_of_reels(other)))


def unseen(shelf, row):
    seen = pulls(shelf, (row,), 0)
    told = []
    for name, size in shelf:
        told.extend(between([run for run in seen if run[0] == name], name, size))
    return told


def between(runs, name, size):
    # A run of no frames behind the reel's last one ends what is left there.
    told = []
    begin = 0
    for run_name, first, many in runs + [(name, size, 0)]:
        if begin < first:
            told.append((name, begin, first - begin))
        begin = first + many
    return told
