"""Pieces mixed where they join: the film of one goes on while the next one begins."""

from cutroom.checks import is_between, is_whole
from cutroom.errors import BadMix, NoPiece, OffReel, TooShort
from cutroom.rows import MOST_FRAMES, film, frame_of
from cutroom.trims import check_of, size_on


def is_mix(mix):
    if not isinstance(mix, tuple) or len(mix) != 2:
        return False
    number, many = mix
    return is_whole(number) and number >= 0 and is_between(many, 1, MOST_FRAMES)


def are_mixes(mixes):
    if not isinstance(mixes, tuple) or not all([is_mix(mix) for mix in mixes]):
        return False
    numbers = [number for number, many in mixes]
    return all([number < number_behind for number, number_behind in zip(numbers, numbers[1:])])


def goes_on(shelf, piece, most):
    # For how many frames more, up to most, the shelf has what the piece shows if it goes on.
    name, first, step, many = piece
    if step == 0:
        return most
    last = frame_of(piece, many - 1)[1]
    return min(most, last if step < 0 else size_on(shelf, name) - 1 - last)


def check_room(shelf, row, number, many):
    if number + 1 >= len(row):
        raise NoPiece("there is no such piece, or none behind it")
    if row[number + 1][3] < many:
        raise TooShort("the next piece has fewer frames")
    if goes_on(shelf, row[number], many) < many:
        raise OffReel("the shelf doesn't have what goes on")


def mixed_frames(piece, next_piece, many):
    told = []
    for number in range(many):
        frames = (frame_of(piece, piece[3] + number), frame_of(next_piece, number))
        told.append(frames + (number + 1, many + 1))
    return told


def mixed_film(shelf, row, mixes):
    check_of(shelf, row)
    if not are_mixes(mixes):
        raise BadMix("these are no mixes")
    for number, many in mixes:
        check_room(shelf, row, number, many)
    sizes = dict(mixes)
    told = film(row[:1])
    for number in range(len(row) - 1):
        many = sizes.get(number, 0)
        told.extend(mixed_frames(row[number], row[number + 1], many))
        told.extend(film(row[number + 1:number + 2])[many:])
    return told


def rooms(shelf, row):
    check_of(shelf, row)
    return tuple([goes_on(shelf, piece, next_piece[3]) for piece, next_piece in zip(row, row[1:])])
