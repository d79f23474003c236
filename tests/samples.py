"""What the tests share: rows to ask about, wrong things, and a reckoning of films and deeds of its own."""

from cutroom.rows import least_of

HUGE = 10 ** 5000

NO_PIECES = (
    None, True, False, 0, 1, -1, HUGE, "", "ab", "abcd", (), [], (None,), ("ab",),
    ("ab", 5, 1), ("ab", 5, 1, 3, 0), ["ab", 5, 1, 3], (("ab", 5, 1, 3),),
    # names
    ("", 5, 1, 3), ("abcdefg", 5, 1, 3), ("Ab", 5, 1, 3), ("a1", 5, 1, 3), ("a b", 5, 1, 3),
    ("ab\n", 5, 1, 3), ("a-", 5, 1, 3), ("\u00e4", 5, 1, 3), ("`", 5, 1, 3), ("{", 5, 1, 3),
    (None, 5, 1, 3), (5, 5, 1, 3), (True, 5, 1, 3), (["a"], 5, 1, 3), (("a",), 5, 1, 3),
    # numbers
    ("ab", -1, 1, 3), ("ab", -1, 1, 1), ("ab", 10000, -1, 3), ("ab", 10000, 0, 1), ("ab", HUGE, 0, 1),
    ("ab", 9998, 1, 3), ("ab", 9999, 1, 2), ("ab", 1, -1, 3), ("ab", 0, -1, 2),
    ("ab", True, 1, 3), ("ab", False, 1, 3), ("ab", None, 1, 3), ("ab", "5", 1, 3), ("ab", [5], 1, 3),
    # steps
    ("ab", 5, 2, 1), ("ab", 5, -2, 1), ("ab", 5, 2, 2), ("ab", 5, HUGE, 1), ("ab", 5, True, 3),
    ("ab", 5, False, 3), ("ab", 5, None, 3), ("ab", 5, "1", 3), ("ab", 5, "", 3), ("ab", 5, (1,), 3),
    # how many
    ("ab", 5, 1, 0), ("ab", 5, 1, -1), ("ab", 5, 1, 3001), ("ab", 5, 0, 3001), ("ab", 5, 0, HUGE),
    ("ab", 5, 1, True), ("ab", 5, 1, False), ("ab", 5, 1, None), ("ab", 5, 1, "3"), ("ab", 5, 1, [3]),
    # nearly black
    ("", 1, 0, 3), ("", 0, 1, 3), ("", 0, -1, 3), ("", 0, 1, 1), ("", 0, -1, 1), ("", 0, 0, 0),
    ("", 0, 0, 3001), ("", False, 0, 3), ("", 0, False, 3), ("", 0, 0, True), (None, 0, 0, 3),
    (0, 0, 0, 3), (False, 0, 0, 3), ([], 0, 0, 3), ((), 0, 0, 3), (" ", 0, 0, 3), ("-", 0, 0, 3),
)

GOOD_PIECES = (
    ("a", 5, 1, 3), ("z", 5, 1, 3), ("abcdef", 5, 1, 3), ("uvwxyz", 5, 1, 3), ("ghijkl", 0, 0, 1), ("mnopqr", 0, 0, 1),
    ("st", 0, 0, 1), ("aaaaaa", 9, 0, 2),
    ("ab", 0, 1, 1), ("ab", 0, -1, 1), ("ab", 0, 0, 1), ("ab", 9999, 1, 1), ("ab", 9999, -1, 1),
    ("ab", 9999, 0, 1), ("ab", 9998, 1, 2), ("ab", 1, -1, 2), ("ab", 9999, 0, 3000), ("ab", 0, 0, 3000),
    ("ab", 0, 1, 3000), ("ab", 7000, 1, 3000), ("ab", 2999, -1, 3000), ("ab", 9999, -1, 3000),
    ("", 0, 0, 1), ("", 0, 0, 3000),
)

NO_ROWS = tuple((piece,) for piece in NO_PIECES) + tuple((("ab", 5, 1, 3), piece) for piece in NO_PIECES) + (
    None, True, False, 0, 1, -1, 3000, HUGE, "", "ab", "ab+5x3", [], [("ab", 5, 1, 3)], ("ab", 5, 1, 3),
    [["ab", 5, 1, 3]], (("ab", 5, 1, 3), [("ab", 5, 1, 3)]), ((),), ([],), (None,), ("",),
    (("a", 0, 0, 3000), ("a", 0, 0, 1)),
    (("a", 0, 1, 3000), ("", 0, 0, 1)),
    (("", 0, 0, 1500), ("a", 9, 0, 1501)),
    (("a", 0, 0, 3000), ("b", 0, 0, 3000)),
    (("a", 0, 0, 1),) * 3001,
)

FULL_ROWS = (
    (("a", 0, 0, 3000),),
    (("a", 0, 1, 2999), ("", 0, 0, 1)),
    (("", 0, 0, 1500), ("a", 1499, -1, 1500)),
    (("a", 0, 0, 1),) * 3000,
)

ROWS = (
    (),
    (("ab", 5, 1, 3),),
    (("ab", 5, -1, 4),),
    (("ab", 5, 0, 3),),
    (("", 0, 0, 4),),
    (("ab", 5, 1, 1), ("ab", 6, -1, 1), ("ab", 7, 0, 1)),
    (("ab", 5, 1, 3), ("ab", 8, 1, 2), ("", 0, 0, 2), ("", 0, 0, 1), ("c", 9, -1, 4)),
    (("c", 9, 0, 2), ("ab", 0, 1, 5), ("ab", 4, -1, 5), ("", 0, 0, 1)),
)

NO_WHOLE_NUMBERS = (None, True, False, "", "0", "1", [], [0], [1], (), (0,), (1,), "ab")


NAMES = ("a", "aa", "ab", "abcdef", "b", "c", "d", "e", "f", "g", "h", "i", "z")

NO_SHELVES = (
    None, True, False, 0, 1, HUGE, "", "a", [], (), [("a", 5)], ("a", 5), ((),), ([],), (None,), ("a",), ("ab",),
    tuple((name, 5) for name in NAMES),
    (["a", 5],), (("a",),), (("a", 5, 1),), (("a", 5), ("b",)), (("a", 5), None), ((("a", 5),),),
    # names
    (("", 5),), (("abcdefg", 5),), (("A", 5),), (("a1", 5),), (("a ", 5),), (("\u00e4", 5),), ((None, 5),), ((1, 5),),
    ((True, 5),), ((("a",), 5),), ((["a"], 5),),
    # how many
    (("a", 0),), (("a", -1),), (("a", 10001),), (("a", HUGE),), (("a", True),), (("a", False),), (("a", None),),
    (("a", "5"),), (("a", [5]),), (("a", (5,)),), (("a", 5), ("b", 0)), (("a", 10001), ("b", 5)),
    # order
    (("a", 5), ("a", 5)), (("a", 5), ("a", 6)), (("b", 5), ("a", 5)), (("a", 5), ("c", 5), ("b", 5)),
    (("ab", 5), ("a", 5)), (("a", 5), ("b", 5), ("b", 5)), (("b", 5), ("b", 5), ("c", 5)),
)


def shown(row):
    frames = []
    for name, number, step, many in row:
        while many > 0:
            frames.append((name, number))
            number += step
            many -= 1
    return frames


def any_row(chance, shelf, many_pieces, longest):
    # Pieces of each step, and black ones, each as far as its reel goes.
    pieces = []
    for number in range(many_pieces):
        name, size = chance.choice(shelf)
        step = chance.choice((1, -1, 0, None))
        first = chance.randrange(size)
        room = {1: size - first, -1: first + 1}.get(step, longest)
        many = chance.randint(1, min(room, longest))
        pieces.append(("", 0, 0, many) if step is None else (name, first, step, many))
    return tuple(pieces)


def runs_of(frames):
    # Goes through all numbers that a frame can have, one by one, for each name.
    there = set(frames)
    runs = []
    for name in sorted({name for name, number in there}):
        many = 0
        for number in range(10001):
            if (name, number) in there:
                many += 1
            elif many > 0:
                runs.append((name, number - many, many))
                many = 0
    return runs


def can_be_one(frames):
    # Asks of each step in turn whether one piece with it shows all these frames.
    name, number = frames[0]
    steps = (0,) if name == "" else (1, -1, 0)
    return any(frames == [(name, number + step * k) for k in range(len(frames))] for step in steps)


def fewest_pieces(frames):
    # Tries every way to end the last piece, so that it doesn't hang on how the program goes about it.
    fewest = [0]
    for end in range(1, len(frames) + 1):
        fewest.append(min(fewest[begin] + 1 for begin in range(end) if can_be_one(frames[begin:end])))
    return fewest[-1]


def refusal(call, *things):
    # The class that is raised itself, as a class above it would do for assertRaises.
    try:
        call(*things)
    except ValueError as error:
        return type(error)
    return None


# No parts, though some are rows: empty, not least, or none at all.
NO_PARTS = NO_ROWS + (
    (), (("ab", 5, 1, 1),), (("ab", 5, -1, 1),), (("ab", 5, 1, 2), ("ab", 7, 1, 2)), (("", 0, 0, 1), ("", 0, 0, 2)),
    (("a", 5, 0, 1), ("a", 6, 1, 2)), (("a", 5, 0, 1), ("a", 6, 0, 2)), (("a", 5, 1, 2), ("a", 7, -1, 2)),
)
PART = (("ab", 5, 1, 2),)

NO_DEEDS = tuple((kind, 0, part) for kind in ("put", "out") for part in NO_PARTS) + tuple(
    deed for part in NO_PARTS for deed in (("over", 0, part, PART), ("over", 0, PART, part), ("over", 0, part, part))
) + tuple(
    deed for place in NO_WHOLE_NUMBERS + (-1, -HUGE)
    for deed in (("put", place, PART), ("out", place, PART), ("over", place, PART, PART))
) + (
    None, True, False, 0, 1, HUGE, "", "put", "over", [], (), ("put",), ("put", 0), ("over", 0), ("over", 0, PART),
    ["put", 0, PART], [("put", 0, PART)], (("put", 0, PART),), ("put", 0, PART, PART), ("out", 0, PART, PART),
    ("over", 0, PART, PART, PART), ("put", 0, 0, PART), ("put", 0, list(PART)), ("put", 0, PART[0]),
    ("", 0, PART), ("Put", 0, PART), ("put ", 0, PART), ("putout", 0, PART), ("p", 0, PART), (None, 0, PART),
    (True, 0, PART), (0, 0, PART), (["put"], 0, PART), (("put",), 0, PART), ("lay", 0, PART), ("cut", 0, PART),
    ("over", 0, PART, (("ab", 5, 1, 3),)), ("over", 0, (("ab", 5, 0, 1),), PART), ("over", 0, PART, (("", 0, 0, 1),)),
)


def part_of(frames):
    return least_of(list(frames))


def fresh(name, many):
    # Frames that no row here shows, no two of which make a longer piece.
    return part_of([(name, 2 * number) for number in range(many)])


def deeds_on(frames, name, sizes):
    # Each kind of deed, of each size, at each place where it fits.
    for place in range(len(frames) + 1):
        for many in sizes:
            yield ("put", place, fresh(name, many))
            if place + many <= len(frames):
                old = part_of(frames[place:place + many])
                yield ("out", place, old)
                yield ("over", place, old, fresh(name, many))


def any_deed(chance, frames, number, names):
    # The frames of each deed are its own, so that a film tells which deeds have made it.
    kind = chance.choice(("put", "out", "over"))
    new = [(names[number % len(names)], 100 * number + 2 * k) for k in range(chance.randrange(1, 4))]
    if kind == "put" or not frames:
        return ("put", chance.randrange(len(frames) + 1), part_of(new))
    place = chance.randrange(len(frames))
    old = frames[place:place + len(new)]
    if kind == "out":
        return ("out", place, part_of(old))
    return ("over", place, part_of(old), part_of(new[:len(old)]))


def behind(frames, deed):
    kind, place, part = deed[:3]
    many = len(shown(part))
    if kind == "put":
        return frames[:place] + shown(part) + frames[place:]
    new = [] if kind == "out" else shown(deed[3])
    return frames[:place] + new + frames[place + many:]


def can_not_be_exchanged(one, other):
    # What the document says of the marks, reckoned out for each two kinds.
    p, n = one[1], len(shown(one[2]))
    q, m = other[1], len(shown(other[2]))
    return {
        ("put", "put"): p < q < p + n,
        ("put", "out"): q <= p + n and p <= q + m,
        ("put", "over"): q < p + n and p < q + m,
        ("out", "put"): p == q,
        ("out", "out"): q < p < q + m,
        ("out", "over"): q < p < q + m,
        ("over", "put"): p < q < p + n,
        ("over", "out"): q < p + n and p < q + m,
        ("over", "over"): q < p + n and p < q + m,
    }[(one[0], other[0])]


def exchange_reckoned(one, other):
    if can_not_be_exchanged(one, other):
        return None
    p, n = one[1], len(shown(one[2]))
    q, m = other[1], len(shown(other[2]))
    more = {"put": 1, "out": -1, "over": 0}
    if (q if other[0] == "put" else q + m) <= p:
        return (other, (one[0], p + more[other[0]] * m) + one[2:])
    return ((other[0], q - more[one[0]] * n) + other[2:], one)


def holder(deeds, number):
    deed = deeds[number]
    for at in range(number + 1, len(deeds)):
        told = exchange_reckoned(deed, deeds[at])
        if told is None:
            return at
        deed = told[1]
    return None
