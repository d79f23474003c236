"""Deeds on a row, what undoes them, and how two of them are exchanged."""

from cutroom.checks import is_whole
from cutroom.cuts import check_size
from cutroom.errors import BadDeed, NotSo
from cutroom.rows import film, frames_in, is_row, least, least_of


def is_part(row):
    return is_row(row) and len(row) > 0 and least(row) == row


def is_deed(deed):
    if not isinstance(deed, tuple) or len(deed) < 3:
        return False
    if not is_whole(deed[1]) or deed[1] < 0 or not all([is_part(part) for part in deed[2:]]):
        return False
    if deed[0] == "over":
        return len(deed) == 4 and frames_in(deed[2]) == frames_in(deed[3])
    return deed[0] in ("put", "out") and len(deed) == 3


def check_deed(deed):
    if not is_deed(deed):
        raise BadDeed("this is no deed")


def old_frames(deed):
    return [] if deed[0] == "put" else film(deed[2])


def new_frames(deed):
    # The last part is the one that a put puts in, and the one that an over lays.
    return [] if deed[0] == "out" else film(deed[len(deed) - 1])


def done(row, deed):
    frames = film(row)
    check_deed(deed)
    place = deed[1]
    old = old_frames(deed)
    new = new_frames(deed)
    end = place + len(old)
    if place > len(frames) or frames[place:end] != old:
        raise NotSo("the deed doesn't fit the row")
    check_size(len(frames) - len(old) + len(new))
    return least_of(frames[:place] + new + frames[end:])


def contrary(deed):
    check_deed(deed)
    kind = deed[0]
    if kind == "over":
        return (kind, deed[1], deed[3], deed[2])
    return ("out" if kind == "put" else "put", deed[1], deed[2])


def mark(deed, bare):
    # A deed of the kind bare has no frames on the row that is asked about, but a place alone.
    place = deed[1]
    return (place, place if deed[0] == bare else place + frames_in(deed[2]))


def overlap(one, other):
    return one[0] < other[1] and other[0] < one[1]


def touch(one, other):
    return one[0] <= other[1] and other[0] <= one[1]


def growth(deed):
    if deed[0] == "over":
        return 0
    many = frames_in(deed[2])
    return many if deed[0] == "put" else -many


def pushed(deed, by):
    return (deed[0], deed[1] + by) + deed[2:]


def exchanged(one, other):
    check_deed(one)
    check_deed(other)
    mark_of_one = mark(one, "out")
    mark_of_other = mark(other, "put")
    if overlap(mark_of_one, mark_of_other):
        return None
    if touch(mark_of_one, mark_of_other) and sorted([one[0], other[0]]) == ["out", "put"]:
        return None
    if mark_of_other[1] <= mark_of_one[0]:
        return (other, pushed(one, growth(other)))
    return (pushed(other, -growth(one)), one)
