"""Desks: each keeps a record that has a world, and takes in only what leaves it one."""

from farclocks.changes import with_letter, with_reading, without_letter
from farclocks.errors import Barred, Nothing
from farclocks.worlds import has_world, need_world


class Desk:
    def __init__(self, record):
        need_world(record)
        self.kept = [record]

    def record(self):
        return self.kept[-1]

    def keep(self, record):
        if not has_world(record):
            raise Barred("there were no world then")
        self.kept.append(record)

    def take(self, letter):
        self.keep(with_letter(self.record(), letter))
        return len(self.record()[1]) - 1

    def read(self, clock, reading):
        self.keep(with_reading(self.record(), clock, reading))
        return (clock, len(self.record()[0][clock][2]) - 1)

    def drop(self, number):
        self.keep(without_letter(self.record(), number))

    def undo(self):
        if self.many() == 0:
            raise Nothing("there is nothing that could be taken back")
        self.kept.pop()

    def many(self):
        return len(self.kept) - 1
