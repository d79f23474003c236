"""The desk: a journal of deeds, taken by lines of words and replied to by texts."""

from cutroom.errors import BadTime, Held, NoDeed, TooLong
from cutroom.journals import Journal
from cutroom.lists import list_of
from cutroom.rows import film, least, least_of
from cutroom.rowtexts import number_read, piece_of_words
from cutroom.times import check_rate
from cutroom.trims import check_shelf, is_on

DONE = "done"
NO_LINE = "refused: line"
NO_REEL = "refused: reel"
NO_SUCH_PLACE = "refused: place"
NO_NUMBER = "refused: number"
NO_TIME = "refused: time"
TOO_MANY = "refused: long"


class Desk:
    def __init__(self, shelf, rate):
        check_shelf(shelf)
        check_rate(rate)
        self.shelf = shelf
        self.rate = rate
        self.journal = Journal(())

    def say(self, line):
        words = line.split(" ")
        # An empty word is no word: there are two blanks, or one at an end.
        if "" in words:
            return NO_LINE
        return self.reply(words[0], words[1:])

    def reply(self, first, rest):
        if first in ("put", "lay") and len(rest) == 5:
            return self.reply_to_piece(first, number_read(rest[0]), piece_of_words(rest[1], rest[2], rest[3], rest[4]))
        if first == "out" and len(rest) == 2:
            return self.reply_to_out(number_read(rest[0]), number_read(rest[1]))
        if first in ("back", "held") and len(rest) == 1:
            return self.reply_to_number(first, number_read(rest[0]))
        if first == "list" and len(rest) == 1:
            return self.reply_to_list(rest[0])
        if first == "many" and len(rest) == 0:
            return self.reply_to_many()
        return NO_LINE

    def reply_to_piece(self, first, place, piece):
        if place is None or piece is None:
            return NO_LINE
        if not is_on(self.shelf, piece):
            return NO_REEL
        part = least((piece,))
        frames = film(self.journal.now())
        if first == "lay":
            old = frames[place:place + piece[3]]
            if len(old) < piece[3]:
                return NO_SUCH_PLACE
            return self.reply_to_deed(("over", place, least_of(old), part))
        if place > len(frames):
            return NO_SUCH_PLACE
        return self.reply_to_deed(("put", place, part))

    def reply_to_out(self, place, many):
        if place is None or many is None:
            return NO_LINE
        old = film(self.journal.now())[place:place + many]
        if many == 0 or len(old) < many:
            return NO_SUCH_PLACE
        return self.reply_to_deed(("out", place, least_of(old)))

    def reply_to_deed(self, deed):
        try:
            self.journal.do(deed)
        except TooLong:
            return TOO_MANY
        return DONE

    def reply_to_number(self, first, number):
        if number is None:
            return NO_LINE
        try:
            holder = self.journal.held_by(number)
        except NoDeed:
            return NO_NUMBER
        if first == "held":
            return "free" if holder is None else f"held by {holder}"
        return self.reply_to_back(number, holder)

    def reply_to_back(self, number, holder):
        try:
            self.journal.take_back(number)
        except Held:
            return f"refused: held by {holder}"
        except TooLong:
            return TOO_MANY
        return DONE

    def reply_to_list(self, start):
        try:
            return list_of(self.journal.now(), start, self.rate)
        except BadTime:
            return NO_TIME
        except TooLong:
            return TOO_MANY

    def reply_to_many(self):
        frames = len(film(self.journal.now()))
        kept = len(self.journal.deeds())
        return f"{frames} frames, {kept} deeds"
