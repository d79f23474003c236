"""Rows of pieces, the films they show, and the least row of a film."""

from cutroom.checks import is_between
from cutroom.errors import BadFilm, BadRow, NoPlace

LETTERS = "abcdefghijklmnopqrstuvwxyz"
LONGEST_NAME = 6
LAST_NUMBER = 9999
MOST_FRAMES = 3000
BLACK = ("", 0)


def is_name(name):
    if not isinstance(name, str) or not 1 <= len(name) <= LONGEST_NAME:
        return False
    return all([letter in LETTERS for letter in name])


def is_frame(frame):
    if not isinstance(frame, tuple) or len(frame) != 2:
        return False
    name, number = frame
    if name == "":
        return is_between(number, 0, 0)
    return is_name(name) and is_between(number, 0, LAST_NUMBER)


def is_piece(piece):
    if not isinstance(piece, tuple) or len(piece) != 4:
        return False
    name, first, step, many = piece
    if not is_frame((name, first)):
        return False
    if not is_between(step, -1, 1) or not is_between(many, 1, MOST_FRAMES):
        return False
    # A black piece of one frame would show the same with any step, but has none.
    if name == "" and step != 0:
        return False
    return is_frame(frame_of(piece, many - 1))


def is_row(row):
    if not isinstance(row, tuple) or not all([is_piece(piece) for piece in row]):
        return False
    return frames_in(row) <= MOST_FRAMES


def are_rows(rows, most):
    return isinstance(rows, tuple) and 1 <= len(rows) <= most and all([is_row(row) for row in rows])


def is_film(frames):
    if not isinstance(frames, list) or len(frames) > MOST_FRAMES:
        return False
    return all([is_frame(frame) for frame in frames])


def frame_of(piece, number):
    name, first, step, many = piece
    return (name, first + step * number)


def frames_in(row):
    return sum([piece[3] for piece in row])


def checked(row):
    if not is_row(row):
        raise BadRow("this is no row")
    return row


def length(row):
    return frames_in(checked(row))


def film(row):
    frames = []
    for piece in checked(row):
        frames.extend([frame_of(piece, number) for number in range(piece[3])])
    return frames


def frame_at(row, place):
    frames = film(row)
    if not is_between(place, 0, len(frames) - 1):
        raise NoPlace("the row has no frame at this place")
    return frames[place]


def same_film(one, other):
    return film(one) == film(other)


def least(row):
    return least_row(film(row))


def least_of(frames):
    if not is_film(frames):
        raise BadFilm("this is no list of up to 3000 frames")
    return least_row(frames)


def least_row(frames):
    # As a piece without its first frames is a piece, too, it never pays to end one early.
    pieces = []
    place = 0
    while place < len(frames):
        piece = longest_piece(frames, place)
        pieces.append(piece)
        place += piece[3]
    return tuple(pieces)


def longest_piece(frames, place):
    name, first = frames[place]
    step = step_from(frames, place)
    many = 1
    while place + many < len(frames) and frames[place + many] == (name, first + step * many):
        many += 1
    return (name, first, step, many)


def step_from(frames, place):
    # Where no piece shows this frame and the next one, it is a piece of one frame, with the step 0.
    if place + 1 == len(frames):
        return 0
    name, number = frames[place]
    next_name, next_number = frames[place + 1]
    step = next_number - number
    if next_name != name or abs(step) > 1:
        return 0
    return step
