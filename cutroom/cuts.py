"""Rows cut at places; pieces are parted here, never joined."""

from cutroom.checks import is_between
from cutroom.errors import NoPlace, TooLong
from cutroom.rows import MOST_FRAMES, checked, length


def check_place(place, last):
    if not is_between(place, 0, last):
        raise NoPlace("the row has no such place")


def check_span(row, place, many):
    size = length(row)
    check_place(place, size)
    if not is_between(many, 0, size - place):
        raise NoPlace("the row has not so many frames from the place on")


def check_size(size):
    if size > MOST_FRAMES:
        raise TooLong("there would be more than 3000 frames")


def piece_parted(piece, number):
    name, first, step, many = piece
    return ((name, first, step, number), (name, first + step * number, step, many - number))


def in_two(row, place):
    ahead = []
    behind = []
    begin = 0
    for piece in row:
        many = piece[3]
        if begin + many <= place:
            ahead.append(piece)
        elif begin >= place:
            behind.append(piece)
        else:
            head, tail = piece_parted(piece, place - begin)
            ahead.append(head)
            behind.append(tail)
        begin += many
    return (tuple(ahead), tuple(behind))


def in_three(row, place, many):
    ahead, rest = in_two(row, place)
    middle, behind = in_two(rest, many)
    return (ahead, middle, behind)


def parted(row, place):
    check_place(place, length(row))
    return in_two(row, place)


def put_in(row, place, more):
    size = length(row)
    size_of_more = length(more)
    check_place(place, size)
    check_size(size + size_of_more)
    ahead, behind = in_two(row, place)
    return ahead + more + behind


def laid_over(row, place, more):
    size = length(row)
    size_of_more = length(more)
    check_place(place, size)
    check_size(place + size_of_more)
    # Where more goes beyond the row's end, in_three has nothing behind it.
    ahead, covered, behind = in_three(row, place, size_of_more)
    return ahead + more + behind


def cut_out(row, place, many):
    check_span(row, place, many)
    ahead, middle, behind = in_three(row, place, many)
    return ahead + behind


def taken(row, place, many):
    check_span(row, place, many)
    ahead, middle, behind = in_three(row, place, many)
    return middle


def lifted(row, place, many):
    check_span(row, place, many)
    ahead, middle, behind = in_three(row, place, many)
    if many == 0:
        return ahead + behind
    return ahead + (("", 0, 0, many),) + behind


def moved(row, place, many, goal):
    check_span(row, place, many)
    check_place(goal, length(row) - many)
    ahead, middle, behind = in_three(row, place, many)
    before, after = in_two(ahead + behind, goal)
    return before + middle + after


def turned_about(row):
    return tuple([piece_turned(piece) for piece in reversed(checked(row))])


def piece_turned(piece):
    name, first, step, many = piece
    return (name, first + step * (many - 1), -step, many)
