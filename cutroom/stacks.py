"""Stacks: lanes that lie side by side and are pushed together where they are bound; the drift of two rows."""

from cutroom.checks import is_between
from cutroom.cuts import check_place, check_size
from cutroom.errors import BadBonds, BadCount, BadRow, NoLane
from cutroom.rows import BLACK, MOST_FRAMES, are_rows, film, least_of

MOST_LANES = 4
FARTHEST_SEEN = 100000


def is_bond(bond, lanes):
    if not isinstance(bond, tuple) or len(bond) == 0:
        return False
    if not all([is_between(number, 0, lanes - 1) for number in bond]):
        return False
    return all([number < number_behind for number, number_behind in zip(bond, bond[1:])])


def are_bonds(bonds, lanes):
    if not isinstance(bonds, tuple) or not all([is_bond(bond, lanes) for bond in bonds]):
        return False
    bound = []
    for bond in bonds:
        bound.extend(bond)
    return sorted(bound) == list(range(lanes))


def check_many(many):
    if not is_between(many, 0, MOST_FRAMES):
        raise BadCount("this is no whole number from 0 to 3000")


def without_black_end(frames):
    end = len(frames)
    while end > 0 and frames[end - 1] == BLACK:
        end -= 1
    return frames[:end]


def changed(frames, place, many, more):
    # What is told of a lane may end ahead of the place; there the lane goes on black.
    padded = frames + [BLACK] * (place - len(frames))
    return without_black_end(padded[:place] + more + padded[place + many:])


class Stack:
    def __init__(self, rows, bonds):
        if not are_rows(rows, MOST_LANES):
            raise BadRow("this is no tuple of 1 to 4 rows")
        if not are_bonds(bonds, len(rows)):
            raise BadBonds("these are no bonds of the lanes")
        self.films = [without_black_end(film(row)) for row in rows]
        self.bonds = bonds

    def put(self, number, place, row):
        bound = self.bound_with(number)
        check_place(place, MOST_FRAMES)
        more = film(row)
        black = [BLACK] * len(more)
        films = []
        for lane, frames in enumerate(self.films):
            if lane == number:
                films.append(changed(frames, place, 0, more))
            elif lane in bound:
                films.append(changed(frames, place, 0, black))
            else:
                films.append(frames)
        self.take_over(films)

    def lay(self, number, place, row):
        self.check_lane(number)
        check_place(place, MOST_FRAMES)
        more = film(row)
        self.change_lane(number, place, more)

    def cut(self, number, place, many):
        bound = self.bound_with(number)
        check_place(place, MOST_FRAMES)
        check_many(many)
        films = []
        for lane, frames in enumerate(self.films):
            films.append(changed(frames, place, many, []) if lane in bound else frames)
        self.take_over(films)

    def lift(self, number, place, many):
        self.check_lane(number)
        check_place(place, MOST_FRAMES)
        check_many(many)
        self.change_lane(number, place, [BLACK] * many)

    def lane(self, number):
        self.check_lane(number)
        return least_of(self.films[number])

    def ends(self):
        return tuple([len(frames) for frames in self.films])

    def side_by_side(self, place):
        check_place(place, FARTHEST_SEEN)
        return tuple([frames[place] if place < len(frames) else BLACK for frames in self.films])

    def bound_with(self, number):
        self.check_lane(number)
        return [bond for bond in self.bonds if number in bond][0]

    def check_lane(self, number):
        if not is_between(number, 0, len(self.films) - 1):
            raise NoLane("the stack has no such lane")

    def change_lane(self, number, place, more):
        films = list(self.films)
        films[number] = changed(films[number], place, len(more), more)
        self.take_over(films)

    def take_over(self, films):
        # All lanes are checked ahead of the one change, so that what is refused changes nothing.
        for frames in films:
            check_size(len(frames))
        self.films = films


def distance(frame, other):
    name, number = frame
    other_name, other_number = other
    if name == "" or name != other_name:
        return None
    return (name, number - other_number)


def drift(one, other):
    distances = [distance(frame, beside) for frame, beside in zip(film(one), film(other))]
    runs = []
    place = 0
    while place < len(distances):
        end = place
        while end < len(distances) and distances[end] == distances[place]:
            end += 1
        if distances[place] is not None:
            name, by = distances[place]
            runs.append((name, place, end - place, by))
        place = end
    return runs
