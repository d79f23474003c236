"""Rows written in one line, and read; pieces read from words."""

from cutroom.errors import BadList
from cutroom.lists import name_word, sign_of, step_of
from cutroom.rows import LETTERS, checked, is_piece, is_row
from cutroom.times import FIGURES

MOST_FIGURES = 5


def row_text(row):
    return " ".join([word_of(piece) for piece in checked(row)])


def word_of(piece):
    name, first, step, many = piece
    return name_word(name) + sign_of(step) + str(first) + "x" + str(many)


def read_row(text):
    if not isinstance(text, str):
        raise BadList("this is no text")
    # The empty text has no words, though split would tell an empty one.
    words = text.split(" ") if text != "" else []
    row = tuple([piece_read(word) for word in words])
    if not is_row(row):
        raise BadList("this is not the writing of a row")
    return row


def piece_read(word):
    # The name is begun ahead of the walk, as the - of a black piece is no letter.
    end = 1
    while end < len(word) and word[end] in LETTERS:
        end += 1
    first, cross, many = word[end + 1:].partition("x")
    return piece_of_words(word[:end], word[end:end + 1], first, many)


def piece_of_words(name, sign, first, many):
    # Tells None where there is no such piece.
    piece = ("" if name == "-" else name, number_read(first), step_of(sign), number_read(many))
    return piece if is_piece(piece) else None


def number_read(word):
    # Tells None of what is no number.
    if not 1 <= len(word) <= MOST_FIGURES or not all([figure in FIGURES for figure in word]):
        return None
    if word[0] == "0" and word != "0":
        return None
    return int(word)
