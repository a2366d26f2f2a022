import unittest

from farclocks.changes import with_letter, with_reading, without_letter
from farclocks.desks import Desk
from farclocks.errors import Barred, ClockError, NoNumber, NoRecord, Nothing, NoWorld
from farclocks.records import is_record
from farclocks.worlds import has_world
from samples import (
    A, B, C, CLOCKS, D, Draw, EIGHT, FULL, LEAST, NO_RECORDS, ODD, ONCE, PAIR, RECORD, WITH_WORLD, WITHOUT_WORLD,
    by_letters, leaves_unchanged, refuses, repr_of, with_clock,
)


class Told(unittest.TestCase):
    def is_at(self, desk, record, many):
        self.assertEqual(repr_of(desk.record()), repr_of(record))
        self.assertIs(type(desk.many()), int)
        self.assertEqual(desk.many(), many)

    def keeps_still(self, desk, refusal, call, *things):
        """The call is refused, and the desk is as it was, back to its first record."""
        record, many = desk.record(), desk.many()
        refuses(self, refusal, call, *things)
        self.is_at(desk, record, many)


class Made(Told):
    def test_of_each_record_with_a_world(self):
        for record in WITH_WORLD:
            self.is_at(Desk(record), record, 0)

    def test_no_world(self):
        for record in WITHOUT_WORLD:
            refuses(self, NoWorld, Desk, record)

    def test_no_record(self):
        for thing in NO_RECORDS:
            refuses(self, NoRecord, Desk, thing)

    def test_nothing_is_changed(self):
        for thing in [[LEAST], [[None]]]:
            leaves_unchanged(self, [thing], lambda record: refuses(self, NoRecord, Desk, record))


class Take(Told):
    def test_tells_the_number(self):
        desk = Desk(by_letters())
        for number in range(8):
            told = desk.take((A, B, number, None))
            self.assertEqual(repr_of(told), repr_of(number))
            self.is_at(desk, by_letters(*[(A, B, k, None) for k in range(number + 1)]), number + 1)

    def test_of_a_record_that_has_some(self):
        desk = Desk(PAIR)
        self.assertEqual(desk.take(((1, 0), (0, 1), 0, 40)), 1)
        self.is_at(desk, (PAIR[0], PAIR[1] + (((1, 0), (0, 1), 0, 40),)), 1)

    def test_one_that_is_there_already(self):
        desk = Desk(by_letters((A, B, 5, 8)))
        self.assertEqual(desk.take((A, B, 5, 8)), 1)
        self.is_at(desk, by_letters((A, B, 5, 8), (A, B, 5, 8)), 1)

    def test_barred(self):
        desk = Desk(by_letters((A, B, 5, 8)))
        for letter in [(B, A, 0, None), (A, B, 9, None), (A, B, 0, 4), (A, B, 9, 999), (B, A, 0, 0)]:
            self.keeps_still(desk, Barred, desk.take, letter)
        desk.take((B, C, 2, 3))
        for letter in [(A, C, 12, None), (A, C, 0, 6), (C, A, 0, 999), (C, B, 0, None)]:
            self.keeps_still(desk, Barred, desk.take, letter)
        self.assertEqual(desk.take((A, C, 11, 11)), 2)

    def test_barred_by_a_clock(self):
        desk = Desk(with_clock((2, 3, (5, 9, 40))))
        for letter in [((0, 1), (0, 0), 0, None), ((0, 0), (0, 2), 106, None), ((0, 0), (0, 2), 0, 69)]:
            self.keeps_still(desk, Barred, desk.take, letter)
        self.assertEqual(desk.take(((0, 0), (0, 2), 105, 105)), 0)

    def test_no_letter_comes_ahead_of_barred(self):
        desk = Desk(EIGHT)
        for letter in [(B, A, 0, None), (A, B, 5, 8), None, (A, B, 9, 8), [A, B, 5, 8], (A, B, True, 8)]:
            self.keeps_still(desk, NoRecord, desk.take, letter)
        desk = Desk(by_letters((A, B, 5, 8)))
        for letter in ODD + [(A, A, 0, 1), (A, (0, 1), 0, 1), (B, A, 5, 4), (B, A, 1000, None)]:
            self.keeps_still(desk, NoRecord, desk.take, letter)

    def test_nothing_is_changed(self):
        for letter in [[A, B, 5, 8], [[None]]]:
            leaves_unchanged(self, [letter], lambda thing: refuses(self, NoRecord, Desk(by_letters()).take, thing))


class Read(Told):
    def test_tells_the_event(self):
        desk = Desk(LEAST)
        for many, reading in enumerate([5, 6, 99]):
            told = desk.read(0, reading)
            self.assertEqual(repr_of(told), repr_of((0, many + 1)))
            self.is_at(desk, with_clock((1, 1, (0, 5, 6, 99)[:many + 2])), many + 1)

    def test_of_each_clock(self):
        desk = Desk(PAIR)
        self.assertEqual(desk.read(1, 99), (1, 2))
        self.assertEqual(desk.read(0, 11), (0, 2))
        self.assertEqual(desk.read(0, 12), (0, 3))
        self.is_at(desk, (((2, 3, (0, 10, 11, 12)), (1, 1, (4, 7, 99))), PAIR[1]), 3)

    def test_a_letter_to_it(self):
        desk = Desk(by_letters())
        event = desk.read(2, 5)
        self.assertEqual(desk.take((A, event, 3, 4)), 0)
        self.is_at(desk, (ONCE[:2] + ((1, 1, (0, 5)),) + ONCE[3:], ((A, (2, 1), 3, 4),)), 2)
        self.keeps_still(desk, Barred, desk.take, (event, C, 0, None))

    def test_no_number(self):
        desk = Desk(PAIR)
        for number in ODD + [2, 3, (0,), "0", [1]]:
            for reading in [50, 0, None]:
                self.keeps_still(desk, NoNumber, desk.read, number, reading)

    def test_no_reading(self):
        desk = Desk(PAIR)
        for reading in ODD + [0, 5, 10, 100, "11", [11]]:
            self.keeps_still(desk, NoRecord, desk.read, 0, reading)
        desk = Desk(FULL)
        for reading in [99, 100, 0]:
            self.keeps_still(desk, NoRecord, desk.read, 0, reading)


class Drop(Told):
    def test_tells_nothing(self):
        for number in range(8):
            desk = Desk(EIGHT)
            self.assertIsNone(desk.drop(number))
            self.is_at(desk, without_letter(EIGHT, number), 1)

    def test_down_to_none(self):
        desk = Desk(FULL)
        for many in range(8):
            desk.drop(0)
            self.is_at(desk, (FULL[0], FULL[1][:7 - many]), many + 1)
        self.keeps_still(desk, NoNumber, desk.drop, 0)

    def test_no_number(self):
        for desk in [Desk(PAIR), Desk(LEAST), Desk(EIGHT)]:
            for number in ODD + [8, 9, (0,), "0", [0]]:
                self.keeps_still(desk, NoNumber, desk.drop, number)

    def test_what_was_barred_is_taken_then(self):
        desk = Desk(by_letters((A, B, 5, 8)))
        self.keeps_still(desk, Barred, desk.take, (B, A, 0, None))
        desk.drop(0)
        self.assertEqual(desk.take((B, A, 0, None)), 0)
        self.is_at(desk, by_letters((B, A, 0, None)), 2)


class Undo(Told):
    def test_nothing(self):
        for record in [LEAST, PAIR, EIGHT, FULL]:
            desk = Desk(record)
            self.keeps_still(desk, Nothing, desk.undo)
            self.keeps_still(desk, Nothing, desk.undo)

    def test_each_kind(self):
        desk = Desk(PAIR)
        for call, things in [(desk.take, [((1, 0), (0, 1), 0, 40)]), (desk.read, [0, 11]), (desk.drop, [0])]:
            call(*things)
            self.assertEqual(desk.many(), 1)
            self.assertIsNone(desk.undo())
            self.is_at(desk, PAIR, 0)
            self.keeps_still(desk, Nothing, desk.undo)

    def test_a_dropped_letter_is_back_in_its_place(self):
        desk = Desk(EIGHT)
        desk.drop(3)
        desk.drop(0)
        desk.undo()
        self.is_at(desk, without_letter(EIGHT, 3), 1)
        desk.undo()
        self.is_at(desk, EIGHT, 0)

    def test_what_was_refused_is_not_taken_back(self):
        desk = Desk(by_letters((A, B, 5, 8)))
        desk.take((B, C, 2, 3))
        self.keeps_still(desk, Barred, desk.take, (C, A, 0, None))
        self.keeps_still(desk, NoRecord, desk.take, None)
        self.keeps_still(desk, NoNumber, desk.drop, 7)
        desk.undo()
        self.is_at(desk, by_letters((A, B, 5, 8)), 0)
        self.keeps_still(desk, Nothing, desk.undo)

    def test_other_steps_behind_it(self):
        desk = Desk(by_letters())
        desk.take((A, B, 5, 8))
        desk.undo()
        self.assertEqual(desk.take((B, A, 0, None)), 0)
        self.is_at(desk, by_letters((B, A, 0, None)), 1)
        desk.undo()
        self.is_at(desk, by_letters(), 0)


class Together(Told):
    def step(self, draw, record):
        """A step that looks like drawn: the desk's method, what it is given, and the change it stands for."""
        kind = draw.upto(0, 3)
        clocks = record[0]
        if kind == 0:
            number = draw.upto(0, len(clocks) - 1)
            return ("read", (number, clocks[number][2][-1] + draw.upto(0, 3)), with_reading)
        if kind == 1:
            return ("drop", (draw.upto(0, 8),), without_letter)
        one, other = draw.upto(0, len(clocks) - 1), draw.upto(0, len(clocks) - 1)
        ends = ((one, draw.upto(0, len(clocks[one][2]) - 1)), (other, draw.upto(0, len(clocks[other][2]) - 1)))
        least = draw.upto(0, 9)
        return ("take", (ends + (least, None if kind == 2 else least + draw.upto(0, 9)),), with_letter)

    def expected(self, record, change, things):
        try:
            told = change(record, *things)
        except ClockError as refusal:
            return type(refusal)
        return told if has_world(told) else Barred

    def test_many_steps(self):
        refused = []
        for seed, record in enumerate(WITH_WORLD[::3] + [RECORD[:1] + ((),), (CLOCKS, ())]):
            draw, desk, past = Draw(seed), Desk(record), [record]
            for _ in range(20):
                name, things, change = self.step(draw, past[-1])
                expected = self.expected(past[-1], change, things)
                if is_record(expected):
                    getattr(desk, name)(*things)
                    past.append(expected)
                else:
                    self.keeps_still(desk, expected, getattr(desk, name), *things)
                    refused.append(expected)
                self.is_at(desk, past[-1], len(past) - 1)
                self.assertIs(has_world(desk.record()), True)
            while len(past) > 1:
                past.pop()
                desk.undo()
                self.is_at(desk, past[-1], len(past) - 1)
            self.keeps_still(desk, Nothing, desk.undo)
        self.assertEqual({Barred, NoRecord, NoNumber}, set(refused))

    def test_two_desks_of_one_record(self):
        one, other = Desk(PAIR), Desk(PAIR)
        one.take(((1, 0), (0, 1), 0, 40))
        self.is_at(other, PAIR, 0)
        other.drop(0)
        other.read(1, 8)
        self.is_at(one, (PAIR[0], PAIR[1] + (((1, 0), (0, 1), 0, 40),)), 1)
        one.undo()
        self.is_at(one, PAIR, 0)
        self.assertEqual(other.many(), 2)
        self.keeps_still(one, Nothing, one.undo)

    def test_a_desk_of_the_record_of_another(self):
        one = Desk(by_letters())
        one.take((A, D, 1, 2))
        other = Desk(one.record())
        self.is_at(other, by_letters((A, D, 1, 2)), 0)
        self.keeps_still(other, Nothing, other.undo)


if __name__ == "__main__":
    unittest.main()
