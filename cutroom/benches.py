"""Benches: rows cut step by step, and taken back and done again step by step."""

from cutroom.cuts import cut_out, put_in, turned_about
from cutroom.errors import NoStep
from cutroom.rows import checked, length


class Bench:
    def __init__(self, row):
        self.row_there = checked(row)
        # Of each step its word and the row that comes if it is taken back, or done again.
        self.steps_done = []
        self.steps_undone = []

    def put(self, place, row):
        return self.take_step("put", put_in(self.row_there, place, row))

    def cut(self, place, many):
        return self.take_step("cut", cut_out(self.row_there, place, many))

    def turn(self):
        return self.take_step("turn", turned_about(self.row_there))

    def take_step(self, word, row):
        self.steps_done.append((word, self.row_there))
        self.steps_undone = []
        self.row_there = row
        return length(row)

    def now(self):
        return self.row_there

    def back(self):
        return self.change_over(self.steps_done, self.steps_undone)

    def forth(self):
        return self.change_over(self.steps_undone, self.steps_done)

    def change_over(self, steps, others):
        if len(steps) == 0:
            raise NoStep("there is no such step")
        word, row = steps.pop()
        others.append((word, self.row_there))
        self.row_there = row
        return word

    def counts(self):
        return (len(self.steps_done), len(self.steps_undone))

    def twin(self):
        other = Bench(self.row_there)
        other.steps_done = list(self.steps_done)
        other.steps_undone = list(self.steps_undone)
        return other
