"""What rows need of the reels, pulled from them, and rows led to the pulled reels and back."""

from cutroom.checks import is_between
from cutroom.errors import BadCount, BadPulls, BadRow, OffReel
from cutroom.rows import BLACK, LAST_NUMBER, are_rows, film, frame_of, is_name, least_of
from cutroom.trims import check_of, check_shelf, size_on

MOST_ROWS = 8
MOST_MORE = 500


def pulls(shelf, rows, handle):
    check_shelf(shelf)
    if not are_rows(rows, MOST_ROWS):
        raise BadRow("this is no tuple of 1 to 8 rows")
    for row in rows:
        check_of(shelf, row)
    if not is_between(handle, 0, MOST_MORE):
        raise BadCount("this is no whole number from 0 to 500")
    return [(name, first, end - first) for name, first, end in made_one(stretches(shelf, rows, handle))]


def stretches(shelf, rows, handle):
    told = []
    for row in rows:
        told.extend([stretch(shelf, piece, handle) for piece in row if piece[0] != ""])
    return told


def stretch(shelf, piece, handle):
    # One behind the last number stands in the place of how many: so two of them are held side by side.
    name, first, step, many = piece
    last = frame_of(piece, many - 1)[1]
    begin = min(first, last) - handle
    end = max(first, last) + 1 + handle
    return (name, max(begin, 0), min(end, size_on(shelf, name)))


def made_one(parts):
    runs = []
    for name, first, end in sorted(parts):
        if runs and runs[-1][0] == name and first <= runs[-1][2]:
            runs[-1] = (name, runs[-1][1], max(end, runs[-1][2]))
        else:
            runs.append((name, first, end))
    return runs


def is_pull(pull):
    if not isinstance(pull, tuple) or len(pull) != 3:
        return False
    name, first, many = pull
    if not is_name(name) or not is_between(first, 0, LAST_NUMBER):
        return False
    return is_between(many, 1, LAST_NUMBER + 1 - first)


def rise(pull, pull_behind):
    name, first, many = pull
    name_behind, first_behind, many_behind = pull_behind
    return name < name_behind or (name == name_behind and first + many < first_behind)


def check_pulls(pulled):
    if not isinstance(pulled, list) or not all([is_pull(pull) for pull in pulled]):
        raise BadPulls("this is no list of pulls")
    if not all([rise(pull, pull_behind) for pull, pull_behind in zip(pulled, pulled[1:])]):
        raise BadPulls("the pulls don't rise, or two of them are one")


def pulled_shelf(pulled):
    check_pulls(pulled)
    return tuple(sizes(pulled).items())


def sizes(pulled):
    told = {}
    for name, first, many in pulled:
        told[name] = told.get(name, 0) + many
    return told


def both_frames(pulled):
    # Of each pulled frame the tuple of itself and of the one that it is on the pulled reel.
    told = []
    behind = {}
    for name, first, many in pulled:
        begin = behind.get(name, 0)
        told.extend([((name, first + number), (name, begin + number)) for number in range(many)])
        behind[name] = begin + many
    return told


def led(row, goals):
    frames = []
    for frame in film(row):
        goal = BLACK if frame == BLACK else goals.get(frame)
        if goal is None:
            raise OffReel("the row shows what isn't there")
        frames.append(goal)
    return least_of(frames)


def pulled_row(pulled, row):
    check_pulls(pulled)
    return led(row, dict(both_frames(pulled)))


def row_again(pulled, row):
    check_pulls(pulled)
    return led(row, dict([(there, here) for here, there in both_frames(pulled)]))
