"""4.1, 4.2, 4.3, 0.2 (d), 0.3: stacks, and the drift of two rows."""

import itertools
import random
import unittest

from cutroom.errors import BadBonds, BadCount, BadRow, NoLane, NoPlace, TooLong
from cutroom.rows import least_of
from cutroom.stacks import Stack, drift
from tests.samples import FULL_ROWS, HUGE, NO_ROWS, NO_WHOLE_NUMBERS, ROWS, refusal, shown

BLACK = ("", 0)
A = (("a", 0, 1, 5),)
B = (("b", 9, -1, 3), ("", 0, 0, 2), ("b", 1, 0, 2))
C = (("", 0, 0, 4), ("c", 5, 1, 2), ("", 0, 0, 3))
D = (("d", 7, 0, 6),)
FOUR = (A, B, C, D)

ALL_BONDS = {
    1: (((0,),),),
    2: (((0,), (1,)), ((1,), (0,)), ((0, 1),)),
    3: (((0,), (1,), (2,)), ((0, 2), (1,)), ((1, 2), (0,)), ((0, 1, 2),)),
    4: (((0, 3), (1, 2)), ((3,), (1,), (0, 2)), ((0, 1, 2, 3),), ((0,), (1, 2, 3))),
}

NO_BONDS_OF_THREE = (
    None, True, 0, 1, HUGE, "", "012", [], (), [(0,), (1,), (2,)], [[0, 1, 2]], ([0, 1, 2],), (0, 1, 2), ((),),
    ((0,), (1,)), ((0, 1),), ((0, 2),), ((1, 2),),
    ((0, 1), (1, 2)), ((0, 1, 2), (0,)), ((0,), (0,), (1,), (2,)), ((0, 0, 1, 2),), ((0,), (1, 1), (2,)),
    ((1, 0), (2,)), ((0, 2, 1),), ((2, 1, 0),), ((0,), (2, 1)),
    ((0, 1, 2), ()), ((), (0, 1, 2)), ((0,), (), (1, 2)),
    ((0, 1, 2, 3),), ((0, 1, 3),), ((0, 1), (2,), (3,)), ((-1, 0, 1, 2),), ((0, 1), (-1,)), ((0, 1, HUGE),),
    ((False, 1, 2),), ((0, True, 2),), ((0,), (True,), (2,)), ((0, 1, None),), ((0, 1), None), ((0, 1), 2),
    ((0, 1), "2"), ((0, 1, "2"),), (("0", "1", "2"),), ((0, 1, [2]),), ((0, 1, (2,)),), (((0,), (1,), (2,)),), "",
)


class Mirror:
    """A stack of its own kind: each lane is a dict of the places that show no black frame."""

    def __init__(self, rows, bonds):
        self.lanes = [{place: frame for place, frame in enumerate(shown(row)) if frame != BLACK} for row in rows]
        self.bonds = bonds

    def kin(self, number):
        return next(bond for bond in self.bonds if number in bond)

    def pushed(self, number, place, many):
        return {at + many if at >= place else at: frame for at, frame in self.lanes[number].items()}

    def without(self, number, place, many):
        return {at: frame for at, frame in self.lanes[number].items() if not place <= at < place + many}

    def laid(self, lane, place, row):
        for at, frame in enumerate(shown(row)):
            if frame != BLACK:
                lane[place + at] = frame
        return lane

    def accept(self, lanes):
        if any(max(lane, default=0) > 2999 for lane in lanes.values()):
            return False
        for number, lane in lanes.items():
            self.lanes[number] = lane
        return True

    def put(self, number, place, row):
        lanes = {lane: self.pushed(lane, place, len(shown(row))) for lane in self.kin(number)}
        self.laid(lanes[number], place, row)
        return self.accept(lanes)

    def lay(self, number, place, row):
        return self.accept({number: self.laid(self.without(number, place, len(shown(row))), place, row)})

    def cut(self, number, place, many):
        lanes = {}
        for lane in self.kin(number):
            left = self.without(lane, place, many)
            lanes[lane] = {at - many if at >= place else at: frame for at, frame in left.items()}
        return self.accept(lanes)

    def lift(self, number, place, many):
        return self.accept({number: self.without(number, place, many)})

    def frames(self, number):
        lane = self.lanes[number]
        return [lane.get(place, BLACK) for place in range(max(lane, default=-1) + 1)]


def told(stack):
    return [stack.lane(number) for number in range(len(stack.ends()))]


class StackTest(unittest.TestCase):
    def check_same(self, stack, mirror):
        films = [mirror.frames(number) for number in range(len(mirror.lanes))]
        self.assertEqual(told(stack), [least_of(frames) for frames in films])
        self.assertEqual(stack.ends(), tuple(len(frames) for frames in films))
        farthest = max(stack.ends())
        for place in (0, 1, 2, 5, 8, farthest - 1, farthest, farthest + 1, 3001, 100000):
            if place >= 0:
                want = tuple(lane.get(place, BLACK) for lane in mirror.lanes)
                self.assertEqual(stack.side_by_side(place), want)


class Made(StackTest):
    def test_lanes_without_black_ends(self):
        stack = Stack(FOUR, ((0, 3), (1, 2)))
        self.assertEqual(told(stack), [A, B, (("", 0, 0, 4), ("c", 5, 1, 2)), D])
        self.assertEqual(stack.ends(), (5, 7, 6, 6))
        self.assertEqual(stack.side_by_side(0), (("a", 0), ("b", 9), BLACK, ("d", 7)))
        self.assertEqual(stack.side_by_side(5), (BLACK, ("b", 1), ("c", 6), ("d", 7)))
        self.assertEqual(stack.side_by_side(6), (BLACK, ("b", 1), BLACK, BLACK))
        self.assertEqual(stack.side_by_side(7), (BLACK,) * 4)
        self.assertEqual(stack.side_by_side(100000), (BLACK,) * 4)

    def test_one_lane(self):
        for row in ROWS + FULL_ROWS:
            self.check_same(Stack((row,), ((0,),)), Mirror((row,), ((0,),)))

    def test_least_rows(self):
        stack = Stack(((("a", 5, 1, 1), ("a", 6, -1, 1), ("", 0, 0, 1), ("", 0, 0, 1)), (("", 0, 0, 3000),)), ((0, 1),))
        self.assertEqual(told(stack), [(("a", 5, 1, 2),), ()])
        self.assertEqual(stack.ends(), (2, 0))

    def test_all_bonds(self):
        for many, some in ALL_BONDS.items():
            for bonds in some:
                stack = Stack(FOUR[:many], bonds)
                for number in range(many):
                    self.assertEqual(stack.bound_with(number), next(bond for bond in bonds if number in bond))
                self.check_same(stack, Mirror(FOUR[:many], bonds))

    def test_bad_rows(self):
        for rows in (None, True, 0, 1, HUGE, "", "ab", (), [], [A], list(FOUR), A[0], (A, None), FOUR + (A,)):
            for bonds in (((0,),), ((0, 1),), ((0, 1, 2, 3),), ((0, 1, 2, 3, 4),), None, ()):
                self.assertEqual(refusal(Stack, rows, bonds), BadRow)
        for row in NO_ROWS:
            self.assertEqual(refusal(Stack, (row,), ((0,),)), BadRow)
            self.assertEqual(refusal(Stack, (row,), None), BadRow)
            self.assertEqual(refusal(Stack, (A, row), ((0, 1),)), BadRow)

    def test_bad_bonds(self):
        for number, bonds in enumerate(NO_BONDS_OF_THREE):
            with self.subTest(number=number):
                self.assertEqual(refusal(Stack, (A, B, C), bonds), BadBonds)
        for bonds in ((), ((0,), (1,)), ((0, 1),), ((0, 0),), ((1,),), ((False,),), (0,), ((),)):
            self.assertEqual(refusal(Stack, (A,), bonds), BadBonds)


class Deeds(StackTest):
    def test_put(self):
        stack = Stack(FOUR, ((0, 2), (1, 3)))
        self.assertIsNone(stack.put(0, 2, (("z", 1, 0, 3),)))
        self.assertEqual(told(stack), [
            (("a", 0, 1, 2), ("z", 1, 0, 3), ("a", 2, 1, 3)), B, (("", 0, 0, 7), ("c", 5, 1, 2)), D,
        ])
        self.assertIsNone(stack.put(3, 1, (("z", 1, 1, 2),)))
        self.assertEqual(stack.lane(3), (("d", 7, 0, 1), ("z", 1, 1, 2), ("d", 7, 0, 5)))
        self.assertEqual(stack.lane(1), (("b", 9, 0, 1), ("", 0, 0, 2), ("b", 8, -1, 2), ("", 0, 0, 2), ("b", 1, 0, 2)))
        self.assertEqual(stack.ends(), (8, 9, 9, 8))

    def test_put_behind_all(self):
        stack = Stack((A, B), ((0, 1),))
        stack.put(0, 9, (("z", 1, 0, 1),))
        self.assertEqual(told(stack), [A + (("", 0, 0, 4), ("z", 1, 0, 1)), B])
        stack.put(1, 3000, ())
        stack.put(1, 3000, (("", 0, 0, 3000),))
        self.assertEqual(told(stack), [A + (("", 0, 0, 4), ("z", 1, 0, 1)), B])
        stack.put(0, 5, (("", 0, 0, 2),))
        self.assertEqual(told(stack), [A + (("", 0, 0, 6), ("z", 1, 0, 1)), B[:1] + (("", 0, 0, 4),) + B[2:]])

    def test_lay(self):
        stack = Stack((A, B), ((0, 1),))
        self.assertIsNone(stack.lay(0, 3, (("z", 1, 0, 4),)))
        self.assertEqual(told(stack), [(("a", 0, 1, 3), ("z", 1, 0, 4)), B])
        stack.lay(1, 1, (("", 0, 0, 3),))
        self.assertEqual(stack.lane(1), (("b", 9, 0, 1), ("", 0, 0, 4), ("b", 1, 0, 2)))
        stack.lay(1, 10, (("z", 5, 1, 2), ("", 0, 0, 9)))
        self.assertEqual(stack.ends(), (7, 12))
        stack.lay(1, 5, (("", 0, 0, 3000),))
        self.assertEqual(told(stack), [(("a", 0, 1, 3), ("z", 1, 0, 4)), (("b", 9, 0, 1),)])
        stack.lay(0, 3000, ())
        self.assertEqual(stack.ends(), (7, 1))

    def test_cut(self):
        stack = Stack(FOUR, ((0, 2), (1, 3)))
        self.assertIsNone(stack.cut(2, 3, 2))
        self.assertEqual(told(stack), [(("a", 0, 1, 3),), B, (("", 0, 0, 3), ("c", 6, 0, 1)), D])
        stack.cut(1, 6, 3000)
        c = (("", 0, 0, 3), ("c", 6, 0, 1))
        self.assertEqual(told(stack), [(("a", 0, 1, 3),), B[:2] + (("b", 1, 0, 1),), c, D])
        stack.cut(1, 0, 3000)
        self.assertEqual(stack.ends(), (3, 0, 4, 0))

    def test_cut_leaves_no_black_end(self):
        stack = Stack((B,), ((0,),))
        stack.cut(0, 5, 2)
        self.assertEqual(told(stack), [(("b", 9, -1, 3),)])

    def test_lift(self):
        stack = Stack((A, B), ((0, 1),))
        self.assertIsNone(stack.lift(0, 1, 2))
        self.assertEqual(told(stack), [(("a", 0, 0, 1), ("", 0, 0, 2), ("a", 3, 1, 2)), B])
        stack.lift(0, 3, 3000)
        self.assertEqual(told(stack), [(("a", 0, 0, 1),), B])
        stack.lift(1, 3000, 3000)
        stack.lift(1, 2, 0)
        self.assertEqual(told(stack), [(("a", 0, 0, 1),), B])

    def test_each_deed_at_each_place(self):
        rows = (
            (), (("z", 1, 0, 1),), (("z", 1, 1, 2), ("", 0, 0, 2)), (("", 0, 0, 1), ("z", 3, -1, 2)), (("", 0, 0, 3),),
        )
        for bonds, number, place in itertools.product(ALL_BONDS[3], range(3), range(11)):
            for name, thing in itertools.chain(
                itertools.product(("put", "lay"), rows), itertools.product(("cut", "lift"), range(9)),
            ):
                stack = Stack((A, B, C), bonds)
                mirror = Mirror((A, B, C), bonds)
                self.assertIsNone(getattr(stack, name)(number, place, thing))
                self.assertTrue(getattr(mirror, name)(number, place, thing))
                self.check_same(stack, mirror)

    def test_many_deeds(self):
        chance = random.Random(4)
        rows = ROWS + (A, B, C, D, (("z", 0, 1, 700),), (("", 0, 0, 900),), (("z", 5, 0, 1), ("", 0, 0, 1200)))
        refused = 0
        for many, some in ALL_BONDS.items():
            for bonds in some:
                stack = Stack(FOUR[:many], bonds)
                mirror = Mirror(FOUR[:many], bonds)
                for turn in range(40):
                    name = chance.choice(("put", "put", "lay", "cut", "lift"))
                    number = chance.randrange(many)
                    place = chance.choice((0, 1, 3, 7, 20, 500, 2999, 3000, chance.randrange(3001)))
                    thing = chance.choice(rows) if name in ("put", "lay") else chance.choice((0, 1, 2, 5, 400, 3000))
                    fits = getattr(mirror, name)(number, place, thing)
                    refused += not fits
                    want = None if fits else TooLong
                    self.assertEqual(refusal(getattr(stack, name), number, place, thing), want)
                    self.check_same(stack, mirror)
        self.assertGreater(refused, 20)


class SideBySide(StackTest):
    def test_bound_lanes_stay_side_by_side(self):
        stack = Stack(((("a", 0, 1, 20),), (("b", 50, 1, 20),), (("c", 90, -1, 20),)), ((0, 1), (2,)))
        stack.put(0, 5, (("z", 0, 1, 4),))
        stack.cut(1, 12, 3)
        stack.put(1, 0, (("y", 0, 0, 2),))
        stack.lay(0, 4, (("x", 0, 0, 1),))
        stack.lift(1, 20, 1)
        seen = [stack.side_by_side(place) for place in range(40)]
        for one, other, alone in seen:
            if one[0] == "a" and other[0] == "b":
                self.assertEqual(other[1] - one[1], 50)
            elif one[0] == "a":
                self.assertEqual(other, BLACK)
        self.assertGreater(len([pair for pair in seen if pair[0][0] == "a" and pair[1][0] == "b"]), 10)
        self.assertEqual(stack.lane(2), (("c", 90, -1, 20),))


class TooLongs(StackTest):
    def test_put(self):
        full = FULL_ROWS[0]
        one = (("z", 1, 0, 1),)
        for bonds, number, want in ((((0, 1),), 1, TooLong), (((0,), (1,)), 1, None), (((0,), (1,)), 0, TooLong)):
            stack = Stack((full, A), bonds)
            self.assertEqual(refusal(stack.put, number, 2, one), want)
            self.assertEqual(stack.ends(), (3000, 5 if want else 6))
        stack = Stack((full, A), ((0, 1),))
        # At the other lane's end nothing of it is pushed.
        self.assertIsNone(stack.put(1, 3000, (("", 0, 0, 5),)))
        self.assertEqual(refusal(stack.put, 1, 3000, one), TooLong)
        self.assertEqual(refusal(stack.put, 0, 2999, (("", 0, 0, 1),)), TooLong)
        self.assertIsNone(stack.put(0, 1, ()))
        self.assertEqual(told(stack), [full, A])

    def test_just_3000(self):
        stack = Stack(((("a", 0, 0, 2998),), A), ((0, 1),))
        self.assertEqual(refusal(stack.put, 1, 0, (("z", 1, 0, 3),)), TooLong)
        self.assertEqual(told(stack), [(("a", 0, 0, 2998),), A])
        self.assertIsNone(stack.put(1, 0, (("z", 1, 0, 2),)))
        self.assertEqual(stack.ends(), (3000, 7))
        self.assertIsNone(stack.lay(1, 2999, (("z", 1, 0, 1),)))
        self.assertEqual(stack.ends(), (3000, 3000))

    def test_lay(self):
        stack = Stack((A, B), ((0, 1),))
        self.assertEqual(refusal(stack.lay, 0, 3000, (("z", 1, 0, 1),)), TooLong)
        self.assertEqual(refusal(stack.lay, 0, 2999, (("z", 1, 0, 2),)), TooLong)
        self.assertEqual(refusal(stack.lay, 0, 1, FULL_ROWS[0]), TooLong)
        self.assertEqual(told(stack), [A, B])
        self.assertIsNone(stack.lay(0, 2999, (("z", 1, 0, 1), ("", 0, 0, 5))))
        self.assertEqual(stack.ends(), (3000, 7))
        self.assertIsNone(stack.lay(0, 3000, (("", 0, 0, 3000),)))
        self.assertIsNone(stack.lay(1, 0, FULL_ROWS[0]))
        self.assertEqual(stack.ends(), (3000, 3000))

    def test_black_at_the_end_is_not_counted(self):
        stack = Stack(((("a", 0, 0, 10), ("", 0, 0, 2990)), A), ((0, 1),))
        self.assertIsNone(stack.put(0, 0, (("b", 0, 0, 2990),)))
        self.assertEqual(stack.ends(), (3000, 2995))


class RefusalsInOrder(StackTest):
    def setUp(self):
        self.stack = Stack((A, B), ((0, 1),))

    def tearDown(self):
        self.assertEqual(told(self.stack), [A, B])
        self.assertEqual(self.stack.ends(), (5, 7))

    def test_no_lane(self):
        stack = self.stack
        for number in NO_WHOLE_NUMBERS + (-1, 2, 3, HUGE, -HUGE):
            self.assertEqual(refusal(stack.lane, number), NoLane)
            self.assertEqual(refusal(stack.bound_with, number), NoLane)
            for place, thing in ((0, A), (0, 1), (-1, None), (None, None)):
                for call in (stack.put, stack.lay, stack.cut, stack.lift):
                    self.assertEqual(refusal(call, number, place, thing), NoLane)

    def test_no_place(self):
        stack = self.stack
        for place in NO_WHOLE_NUMBERS + (-1, 3001, HUGE, -HUGE):
            for number, thing in itertools.product((0, 1), (A, 1, None, -1, FULL_ROWS[0])):
                for call in (stack.put, stack.lay, stack.cut, stack.lift):
                    self.assertEqual(refusal(call, number, place, thing), NoPlace)
        for place in NO_WHOLE_NUMBERS + (-1, 100001, HUGE, -HUGE):
            self.assertEqual(refusal(stack.side_by_side, place), NoPlace)

    def test_bad_row(self):
        stack = self.stack
        for row, place in itertools.product(NO_ROWS, (0, 3000)):
            self.assertEqual(refusal(stack.put, 0, place, row), BadRow)
            self.assertEqual(refusal(stack.lay, 1, place, row), BadRow)

    def test_bad_count(self):
        stack = self.stack
        for many in NO_WHOLE_NUMBERS + (-1, 3001, HUGE, -HUGE):
            for place in (0, 3, 3000):
                self.assertEqual(refusal(stack.cut, 0, place, many), BadCount)
                self.assertEqual(refusal(stack.lift, 1, place, many), BadCount)


class NothingHangsTogether(StackTest):
    def test_two_stacks_of_the_same_rows(self):
        rows = (A, B, C)
        bonds = ((0, 1), (2,))
        one = Stack(rows, bonds)
        other = Stack(rows, bonds)
        before = (told(other), other.ends())
        one.put(0, 1, D)
        one.lay(1, 2, D)
        one.cut(2, 1, 3)
        one.lift(0, 0, 2)
        self.assertEqual((told(other), other.ends()), before)
        self.assertNotEqual(told(one), before[0])
        self.assertEqual(rows, (A, B, C))

    def test_asked_twice(self):
        stack = Stack(FOUR, ((0, 3), (1, 2)))
        for turn in range(2):
            self.assertEqual(told(stack), told(stack))
            self.assertEqual(stack.side_by_side(4), stack.side_by_side(4))
            self.assertEqual(stack.bound_with(3), (0, 3))
            stack.put(0, 2, D)


class Drift(unittest.TestCase):
    def reckoned(self, one, other):
        # Tries each run that could be, longest first, so that it doesn't hang on a walk from the left.
        pairs = list(zip(shown(one), shown(other)))

        def key(place):
            if not 0 <= place < len(pairs):
                return None
            (name, number), (beside, less) = pairs[place]
            return (name, number - less) if name == beside and name != "" else None

        runs = []
        for begin, end in itertools.combinations(range(len(pairs) + 1), 2):
            keys = {key(place) for place in range(begin, end)}
            if len(keys) == 1 and None not in keys and key(begin - 1) not in keys and key(end) not in keys:
                name, by = keys.pop()
                runs.append((name, begin, end - begin, by))
        return runs

    def test_plain_ones(self):
        one = (("a", 5, 1, 6), ("", 0, 0, 2), ("b", 3, 0, 2))
        self.assertEqual(drift(one, (("a", 3, 1, 6), ("", 0, 0, 2), ("b", 3, 0, 2))), [("a", 0, 6, 2), ("b", 8, 2, 0)])
        self.assertEqual(drift(one, (("a", 3, 1, 2), ("a", 5, 1, 2), ("a", 9, 1, 2))), [("a", 0, 4, 2), ("a", 4, 2, 0)])
        self.assertEqual(drift(one, (("a", 5, 0, 3),)), [("a", 0, 1, 0), ("a", 1, 1, 1), ("a", 2, 1, 2)])
        for between in (("", 0, 0, 1), ("b", 0, 0, 1)):
            other = (("a", 9, 1, 2), between, ("a", 12, 1, 2))
            self.assertEqual(drift(one, other), [("a", 0, 2, -4), ("a", 3, 2, -4)])
        self.assertEqual(drift((("", 0, 0, 3),), (("", 0, 0, 3),)), [])
        self.assertEqual(drift((), one), [])
        self.assertEqual(drift(one, ()), [])
        self.assertEqual(drift((("a", 1, 0, 1), ("b", 1, 0, 1)), (("a", 0, 0, 1), ("b", 0, 0, 1))),
                         [("a", 0, 1, 1), ("b", 1, 1, 1)])

    def test_a_row_and_itself(self):
        self.assertEqual(drift(B, B), [("b", 0, 3, 0), ("b", 5, 2, 0)])
        self.assertEqual(drift(FULL_ROWS[3], FULL_ROWS[0]), [("a", 0, 3000, 0)])

    def test_each_two(self):
        pieces = [("", 0, 0, 1), ("b", 2, 1, 2), ("a", 2, 1, 3), ("a", 4, -1, 3), ("a", 3, 0, 2), ("a", 3, 1, 1)]
        rows = [row for many in range(4) for row in itertools.product(pieces, repeat=many)]
        for number, one in enumerate(rows):
            for other in rows[number % 7::7]:
                told_runs = drift(one, other)
                self.assertEqual(told_runs, self.reckoned(one, other))
                turned = [(name, place, many, -by) for name, place, many, by in told_runs]
                self.assertEqual(drift(other, one), turned)

    def test_told_anew(self):
        runs = drift(A, A)
        runs.append(None)
        self.assertEqual(drift(A, A), [("a", 0, 5, 0)])

    def test_bad_row_of_either(self):
        for row in NO_ROWS:
            self.assertEqual(refusal(drift, row, A), BadRow)
            self.assertEqual(refusal(drift, A, row), BadRow)
            self.assertEqual(refusal(drift, row, row), BadRow)
