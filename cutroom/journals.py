"""Journals: deeds done on a row are kept, and each is taken back unless one behind it holds it."""

from cutroom.checks import is_between
from cutroom.deeds import contrary, done, exchanged
from cutroom.errors import Held, NoDeed
from cutroom.rows import least


def carried_behind(deed, others):
    # Stops at the first one that holds the deed; so fewer are told than there are.
    passed = []
    for other in others:
        both = exchanged(deed, other)
        if both is None:
            break
        passed.append(both[0])
        deed = both[1]
    return (deed, passed)


class Journal:
    def __init__(self, row):
        self.first_row = least(row)
        self.last_row = self.first_row
        self.kept = []

    def do(self, deed):
        self.last_row = done(self.last_row, deed)
        self.kept.append(deed)

    def now(self):
        return self.last_row

    def beginning(self):
        return self.first_row

    def deeds(self):
        return list(self.kept)

    def held_by(self, number):
        self.check_number(number)
        others = self.kept[number + 1:]
        deed, passed = carried_behind(self.kept[number], others)
        if len(passed) == len(others):
            return None
        return number + 1 + len(passed)

    def take_back(self, number):
        self.check_number(number)
        others = self.kept[number + 1:]
        deed, passed = carried_behind(self.kept[number], others)
        if len(passed) < len(others):
            raise Held("a later deed holds this one")
        self.last_row = done(self.last_row, contrary(deed))
        self.kept = self.kept[:number] + passed
        return deed

    def check_number(self, number):
        if not is_between(number, 0, len(self.kept) - 1):
            raise NoDeed("no deed has this number")
