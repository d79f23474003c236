"""Rows written as cutters' lists, and lists read."""

from cutroom.errors import BadList, TooLong
from cutroom.rows import MOST_FRAMES, checked, frame_of, frames_in, is_piece
from cutroom.times import check_rate, is_time, number_of, size_of_day, time_of

FIRST_WORD = "from "


def sign_of(step):
    return {1: "+", -1: "-", 0: "="}[step]


def step_of(sign):
    return {"+": 1, "-": -1, "=": 0}.get(sign)


def name_word(name):
    return "-" if name == "" else name


def line_of(number, piece, begin, rate):
    name, first, step, many = piece
    last = frame_of(piece, many - 1)[1]
    words = [str(number).zfill(4), name_word(name), sign_of(step)]
    return " ".join(words + [time_of(place, rate) for place in (first, last, begin, begin + many)])


def list_of(row, start, rate):
    checked(row)
    begin = number_of(start, rate)
    if begin + frames_in(row) >= size_of_day(rate):
        raise TooLong("the row's end has no time on this day")
    lines = [FIRST_WORD + start]
    for number, piece in enumerate(row, start=1):
        lines.append(line_of(number, piece, begin, rate))
        begin += piece[3]
    return "\n".join(lines)


def piece_of(line, number, begin, rate):
    # Tells None of a line that is none of a piece of this number that begins there.
    words = line.split(" ")
    if len(words) != 7 or not is_time(words[3], rate) or not is_time(words[6], rate):
        return None
    name = "" if words[1] == "-" else words[1]
    piece = (name, number_of(words[3], rate), step_of(words[2]), number_of(words[6], rate) - begin)
    # The words that the piece isn't made of are right, if it is written by just these.
    if not is_piece(piece) or line_of(number, piece, begin, rate) != line:
        return None
    return piece


def lines_read(text, rate):
    # Tells the first line with a fault, or None, and the time and the pieces up to there.
    lines = text.split("\n")
    start = lines[0][len(FIRST_WORD):]
    if not lines[0].startswith(FIRST_WORD) or not is_time(start, rate):
        return (0, "", [])
    begin = number_of(start, rate)
    farthest = begin + MOST_FRAMES
    pieces = []
    for number, line in enumerate(lines[1:], start=1):
        piece = piece_of(line, number, begin, rate)
        if piece is None or begin + piece[3] > farthest:
            return (number, start, pieces)
        pieces.append(piece)
        begin += piece[3]
    return (None, start, pieces)


def text_read(text, rate):
    check_rate(rate)
    if not isinstance(text, str):
        raise BadList("this is no text")
    return lines_read(text, rate)


def first_fault(text, rate):
    return text_read(text, rate)[0]


def read_list(text, rate):
    fault, start, pieces = text_read(text, rate)
    if fault is not None:
        raise BadList("this is no list")
    return (start, tuple(pieces))
