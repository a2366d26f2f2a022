"""Sketches: each keeps a record in which anything may come, and goes back and forth step by step."""

from farclocks.changes import with_letter, with_reading, without_letter
from farclocks.errors import Nothing
from farclocks.records import need_record
from farclocks.worlds import has_world


class Sketch:
    # Each step is kept as its word and the record behind it; the first record is kept as a step without a word.
    def __init__(self, record):
        need_record(record)
        self.past = [(None, record)]
        self.ahead = []

    def record(self):
        return self.past[-1][1]

    def go_on(self, word, record):
        self.past.append((word, record))
        self.ahead = []
        return has_world(record)

    def write(self, letter):
        return self.go_on("write", with_letter(self.record(), letter))

    def read(self, clock, reading):
        return self.go_on("read", with_reading(self.record(), clock, reading))

    def cut(self, number):
        return self.go_on("cut", without_letter(self.record(), number))

    def good(self):
        for step in reversed(self.past):
            if has_world(step[1]):
                return step[1]
        return None

    def back(self):
        if len(self.past) == 1:
            raise Nothing("there is nothing that could be taken back")
        step = self.past.pop()
        self.ahead.append(step)
        return step[0]

    def forth(self):
        if self.ahead == []:
            raise Nothing("there is nothing that could be done again")
        step = self.ahead.pop()
        self.past.append(step)
        return step[0]

    def counts(self):
        return (len(self.past) - 1, len(self.ahead))

    def twin(self):
        other = Sketch(self.record())
        other.past = list(self.past)
        other.ahead = list(self.ahead)
        return other
