"""The refusals: all stand right under CutError, none under another."""


class CutError(ValueError):
    pass


# Stage 1: rows

class BadRow(CutError):
    pass


class NoPlace(CutError):
    pass


class BadFilm(CutError):
    pass


# Stage 2: cuts

class TooLong(CutError):
    pass


# Stage 3: trims

class BadShelf(CutError):
    pass


class OffReel(CutError):
    pass


class NoPiece(CutError):
    pass


class BadCount(CutError):
    pass


class TooShort(CutError):
    pass


class NoJoin(CutError):
    pass


# Stage 4: stacks

class BadBonds(CutError):
    pass


class NoLane(CutError):
    pass


# Stage 5: deeds

class BadDeed(CutError):
    pass


class NotSo(CutError):
    pass


# Stage 6: journals

class NoDeed(CutError):
    pass


class Held(CutError):
    pass


# Stage 7: two cutters

class Clash(CutError):
    pass


# Stage 8: times

class BadRate(CutError):
    pass


class BadTime(CutError):
    pass


# Stage 9: lists

class BadList(CutError):
    pass


# Stage 10: pulls

class BadPulls(CutError):
    pass


# Stage 11: mixes

class BadMix(CutError):
    pass


# Stage 15: benches

class NoStep(CutError):
    pass
