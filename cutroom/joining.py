"""Two cutters' deeds on one row, joined to one film."""

from cutroom.deeds import done, growth, is_deed, mark, overlap, pushed
from cutroom.errors import BadDeed, Clash
from cutroom.rows import checked, least


def is_deeds(deeds):
    return isinstance(deeds, list) and all([is_deed(deed) for deed in deeds])


def all_done(row, deeds):
    told = least(row)
    for deed in deeds:
        told = done(told, deed)
    return told


def check_lists(row, ones, others):
    checked(row)
    if not is_deeds(ones) or not is_deeds(others):
        raise BadDeed("this is no list of deeds")
    all_done(row, ones)
    all_done(row, others)


def do_clash(one, other):
    if overlap(mark(one, "put"), mark(other, "put")):
        return True
    return one[0] == "put" and other[0] == "put" and one[1] == other[1]


def carried_past(deed, other):
    if mark(other, "put")[1] <= deed[1]:
        return pushed(deed, growth(other))
    return deed


def carried_past_all(ones, others):
    # Tells the two that clash first, or None, and the others' and the ones' deeds as they have become.
    ones_behind = list(ones)
    others_behind = []
    for number, other in enumerate(others):
        carried = []
        for number_of_one, one in enumerate(ones_behind):
            if do_clash(one, other):
                return ((number_of_one, number), others_behind, ones_behind)
            carried.append(carried_past(one, other))
            other = carried_past(other, one)
        ones_behind = carried
        others_behind.append(other)
    return (None, others_behind, ones_behind)


def clash(row, ones, others):
    check_lists(row, ones, others)
    return carried_past_all(ones, others)[0]


def joined(row, ones, others):
    check_lists(row, ones, others)
    two, others_behind, ones_behind = carried_past_all(ones, others)
    if two is not None:
        raise Clash("two of the deeds clash")
    return (others_behind, ones_behind, all_done(row, ones + others_behind))
