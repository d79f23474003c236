"""Pieces trimmed, slipped, rolled and slid as far as the reels of a shelf go, and pieces healed."""

from cutroom.checks import is_between
from cutroom.cuts import check_size
from cutroom.errors import BadCount, BadShelf, NoJoin, NoPiece, OffReel, TooShort
from cutroom.rows import checked, film, frame_of, frames_in, is_name, longest_piece

MOST_REELS = 12
LONGEST_REEL = 10000
FARTHEST = 3000


def is_reel(reel):
    if not isinstance(reel, tuple) or len(reel) != 2:
        return False
    name, many = reel
    return is_name(name) and is_between(many, 1, LONGEST_REEL)


def is_shelf(shelf):
    if not isinstance(shelf, tuple) or not 1 <= len(shelf) <= MOST_REELS:
        return False
    if not all([is_reel(reel) for reel in shelf]):
        return False
    names = [name for name, many in shelf]
    return all([name < name_behind for name, name_behind in zip(names, names[1:])])


def size_on(shelf, asked):
    for name, many in shelf:
        if name == asked:
            return many
    return 0


def is_on(shelf, piece):
    name, first, step, many = piece
    # Slipping alone could give black another number than 0; no shelf has such a frame.
    if name == "":
        return first == 0
    last = frame_of(piece, many - 1)[1]
    return 0 <= min(first, last) and max(first, last) < size_on(shelf, name)


def check_shelf(shelf):
    if not is_shelf(shelf):
        raise BadShelf("this is no shelf")


def is_of(shelf, row):
    check_shelf(shelf)
    return all([is_on(shelf, piece) for piece in checked(row)])


def check_of(shelf, row):
    if not is_of(shelf, row):
        raise OffReel("the row shows what the shelf doesn't have")


def check_asked(shelf, row, number, ahead, behind, by):
    check_of(shelf, row)
    # So many pieces ahead of it and behind it are asked for, too.
    if not is_between(number, ahead, len(row) - 1 - behind):
        raise NoPiece("the row has no such piece, or none beside it")
    if not is_between(by, -FARTHEST, FARTHEST):
        raise BadCount("this is no whole number from -3000 to 3000")


def fitted(shelf, row, number, pieces):
    if any([piece[3] < 1 for piece in pieces]):
        raise TooShort("a piece would have no frame")
    if not all([is_on(shelf, piece) for piece in pieces]):
        raise OffReel("a piece would show what the shelf doesn't have")
    told = row[:number] + pieces + row[number + len(pieces):]
    check_size(frames_in(told))
    return told


def with_head(piece, by):
    name, first, step, many = piece
    return (name, first + step * by, step, many - by)


def with_tail(piece, by):
    name, first, step, many = piece
    return (name, first, step, many + by)


def with_numbers(piece, by):
    name, first, step, many = piece
    return (name, first + by, step, many)


def head_trimmed(shelf, row, number, by):
    check_asked(shelf, row, number, 0, 0, by)
    return fitted(shelf, row, number, (with_head(row[number], by),))


def tail_trimmed(shelf, row, number, by):
    check_asked(shelf, row, number, 0, 0, by)
    return fitted(shelf, row, number, (with_tail(row[number], by),))


def slipped(shelf, row, number, by):
    check_asked(shelf, row, number, 0, 0, by)
    return fitted(shelf, row, number, (with_numbers(row[number], by),))


def rolled(shelf, row, number, by):
    check_asked(shelf, row, number, 0, 1, by)
    return fitted(shelf, row, number, (with_tail(row[number], by), with_head(row[number + 1], by)))


def slid(shelf, row, number, by):
    check_asked(shelf, row, number, 1, 1, by)
    pieces = (with_tail(row[number - 1], by), row[number], with_head(row[number + 1], by))
    return fitted(shelf, row, number - 1, pieces)


def healed(row, number):
    if not is_between(number, 0, len(checked(row)) - 2):
        raise NoPiece("the row has no such piece, or none behind it")
    frames = film(row[number:number + 2])
    piece = longest_piece(frames, 0)
    if piece[3] < len(frames):
        raise NoJoin("no piece shows the frames of both")
    return row[:number] + (piece,) + row[number + 2:]
