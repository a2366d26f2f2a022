import unittest

from farclocks.changes import with_letter, with_reading, without_letter
from farclocks.errors import ClockError, NoNumber, NoRecord, Nothing
from farclocks.sketches import Sketch
from farclocks.records import is_record
from farclocks.worlds import has_world
from samples import (
    A, B, C, CLOCKS, D, Draw, EIGHT, EIGHT_WITHOUT_WORLD, FULL, LEAST, NAMED, NO_RECORDS, NO_WORLD, ODD, ONCE, PAIR,
    RECORD, RECORDS, WITH_WORLD, WITHOUT_WORLD, by_letters, leaves_unchanged, refuses, repr_of, with_clock,
)

LATER, BACK = (A, B, 5, 8), (B, A, 0, None)


class Told(unittest.TestCase):
    def is_at(self, sketch, record, counts):
        self.assertEqual(repr_of(sketch.record()), repr_of(record))
        self.assertEqual(repr_of(sketch.counts()), repr_of(counts))

    def as_it_is(self, sketch):
        """All that a sketch tells, through its whole past and all that it can do again; a twin tells it."""
        twin = sketch.twin()
        told = [(sketch.record(), sketch.good(), sketch.counts())]
        while twin.counts()[1] > 0:
            told.append((twin.forth(), twin.record(), twin.good(), twin.counts()))
        while twin.counts()[0] > 0:
            told.append((twin.back(), twin.record(), twin.good(), twin.counts()))
        return told

    def keeps_still(self, sketch, refusal, call, *things):
        before = self.as_it_is(sketch)
        refuses(self, refusal, call, *things)
        self.assertEqual(self.as_it_is(sketch), before)


class Made(Told):
    def test_of_each_record(self):
        for record in RECORDS:
            self.is_at(Sketch(record), record, (0, 0))

    def test_no_record(self):
        for thing in NO_RECORDS:
            refuses(self, NoRecord, Sketch, thing)

    def test_nothing_is_changed(self):
        for thing in [[LEAST], [[None]]]:
            leaves_unchanged(self, [thing], lambda record: refuses(self, NoRecord, Sketch, record))


class Write(Told):
    def test_with_a_world_and_without(self):
        sketch = Sketch(by_letters())
        self.assertIs(sketch.write(LATER), True)
        self.is_at(sketch, by_letters(LATER), (1, 0))
        self.assertIs(sketch.write(BACK), False)
        self.is_at(sketch, NO_WORLD, (2, 0))
        self.assertIs(sketch.write((C, D, 1, 2)), False)
        self.is_at(sketch, by_letters(LATER, BACK, (C, D, 1, 2)), (3, 0))

    def test_up_to_eight(self):
        sketch = Sketch(by_letters())
        for many in range(8):
            self.assertIs(sketch.write((A, B, many, None)), True)
        self.is_at(sketch, by_letters(*[(A, B, many, None) for many in range(8)]), (8, 0))
        self.keeps_still(sketch, NoRecord, sketch.write, (A, B, 8, None))

    def test_no_letter(self):
        for record in [by_letters(), NO_WORLD, EIGHT, EIGHT_WITHOUT_WORLD, FULL, LEAST]:
            sketch = Sketch(record)
            for letter in ODD + [(A, A, 0, 1), [A, B, 5, 8], (A, B, 8, 5), (A, (9, 0), 0, 1), (A, B, True, 5)]:
                refuses(self, NoRecord, sketch.write, letter)
            self.is_at(sketch, record, (0, 0))

    def test_nothing_is_changed(self):
        for letter in [[A, B, 5, 8], [[None]]]:
            leaves_unchanged(self, [letter], lambda thing: refuses(self, NoRecord, Sketch(by_letters()).write, thing))


class Read(Told):
    def test_tells_whether_there_is_a_world(self):
        sketch = Sketch(LEAST)
        for many, reading in enumerate([5, 6, 99]):
            self.assertIs(sketch.read(0, reading), True)
            self.is_at(sketch, with_clock((1, 1, (0, 5, 6, 99)[:many + 2])), (many + 1, 0))
        self.keeps_still(sketch, NoRecord, sketch.read, 0, 99)
        sketch = Sketch(NO_WORLD)
        self.assertIs(sketch.read(3, 7), False)
        self.is_at(sketch, (ONCE[:3] + ((1, 1, (0, 7)),), NO_WORLD[1]), (1, 0))

    def test_a_letter_to_it(self):
        sketch = Sketch(by_letters())
        self.assertIs(sketch.read(2, 5), True)
        self.assertIs(sketch.write(((2, 1), C, 0, None)), False)
        self.assertIs(sketch.cut(0), True)
        self.is_at(sketch, (ONCE[:2] + ((1, 1, (0, 5)),) + ONCE[3:], ()), (3, 0))

    def test_refusals(self):
        sketch = Sketch(PAIR)
        for number in ODD + [2, 3, (0,), "0", [1]]:
            for reading in [50, 0, None]:
                refuses(self, NoNumber, sketch.read, number, reading)
        for reading in ODD + [0, 5, 10, 100, "11", [11]]:
            refuses(self, NoRecord, sketch.read, 0, reading)
        self.is_at(sketch, PAIR, (0, 0))


class Cut(Told):
    def test_tells_whether_there_is_a_world(self):
        sketch = Sketch(NO_WORLD)
        self.assertIs(sketch.cut(0), True)
        self.is_at(sketch, by_letters(BACK), (1, 0))
        self.assertIs(sketch.cut(0), True)
        self.is_at(sketch, by_letters(), (2, 0))
        self.keeps_still(sketch, NoNumber, sketch.cut, 0)

    def test_still_without_a_world(self):
        sketch = Sketch(by_letters(LATER, BACK, (C, D, 1, 2)))
        self.assertIs(sketch.cut(2), False)
        self.assertIs(sketch.cut(1), True)

    def test_each_letter(self):
        for record in NAMED:
            for number in range(len(record[1])):
                sketch = Sketch(record)
                told = without_letter(record, number)
                self.assertIs(sketch.cut(number), has_world(told))
                self.is_at(sketch, told, (1, 0))

    def test_no_number(self):
        for record in [PAIR, LEAST, EIGHT, NO_WORLD]:
            sketch = Sketch(record)
            for number in ODD + [len(record[1]), 8, 9, (0,), "0", [0]]:
                refuses(self, NoNumber, sketch.cut, number)
            self.is_at(sketch, record, (0, 0))


class Good(Told):
    def test_the_first_one(self):
        for record in WITH_WORLD:
            self.assertEqual(repr_of(Sketch(record).good()), repr_of(record))
        for record in WITHOUT_WORLD:
            self.assertIsNone(Sketch(record).good())

    def test_the_last_that_has_a_world(self):
        sketch = Sketch(by_letters())
        sketch.write(LATER)
        self.assertEqual(sketch.good(), by_letters(LATER))
        sketch.write(BACK)
        self.assertEqual(sketch.good(), by_letters(LATER))
        sketch.write((C, D, 1, 2))
        self.assertEqual(sketch.good(), by_letters(LATER))
        sketch.cut(0)
        self.assertEqual(sketch.good(), by_letters(BACK, (C, D, 1, 2)))

    def test_none_until_there_is_one(self):
        sketch = Sketch(NO_WORLD)
        self.assertIsNone(sketch.good())
        sketch.read(0, 9)
        self.assertIsNone(sketch.good())
        sketch.cut(1)
        self.assertEqual(sketch.good(), (((1, 1, (0, 9)),) + ONCE[1:], (LATER,)))
        sketch.write(BACK)
        self.assertEqual(sketch.good(), (((1, 1, (0, 9)),) + ONCE[1:], (LATER,)))
        sketch.back()
        sketch.back()
        self.assertIsNone(sketch.good())
        sketch.back()
        self.assertIsNone(sketch.good())

    def test_not_what_was_taken_back(self):
        sketch = Sketch(by_letters(LATER))
        sketch.write(BACK)
        sketch.cut(0)
        self.assertEqual(sketch.good(), by_letters(BACK))
        sketch.back()
        self.assertEqual(sketch.good(), by_letters(LATER))
        sketch.forth()
        self.assertEqual(sketch.good(), by_letters(BACK))


class BackAndForth(Told):
    def three_steps(self):
        sketch = Sketch(by_letters())
        sketch.write(LATER)
        sketch.read(1, 4)
        sketch.cut(0)
        return sketch

    read = ONCE[:1] + ((1, 1, (0, 4)),) + ONCE[2:]
    records = [by_letters(), by_letters(LATER), (read, (LATER,)), (read, ())]

    def test_step_by_step(self):
        sketch = self.three_steps()
        words = ["write", "read", "cut"]
        for _ in range(2):
            self.is_at(sketch, self.records[3], (3, 0))
            for many in [3, 2, 1]:
                self.assertEqual(repr_of(sketch.back()), repr_of(words[many - 1]))
                self.is_at(sketch, self.records[many - 1], (many - 1, 4 - many))
            self.keeps_still(sketch, Nothing, sketch.back)
            for many in [1, 2, 3]:
                self.assertEqual(repr_of(sketch.forth()), repr_of(words[many - 1]))
                self.is_at(sketch, self.records[many], (many, 3 - many))
            self.keeps_still(sketch, Nothing, sketch.forth)

    def test_nothing_to_begin_with(self):
        for record in [LEAST, PAIR, NO_WORLD, FULL]:
            sketch = Sketch(record)
            for call in [sketch.back, sketch.forth, sketch.back]:
                self.keeps_still(sketch, Nothing, call)

    def test_nothing_is_done_again_behind_another_step(self):
        for name, things in [("write", [(C, D, 1, 2)]), ("read", [0, 7]), ("cut", [0])]:
            sketch = self.three_steps()
            sketch.back()
            sketch.back()
            getattr(sketch, name)(*things)
            self.assertEqual(sketch.counts(), (2, 0))
            self.keeps_still(sketch, Nothing, sketch.forth)
            self.assertEqual(sketch.back(), name)
            self.is_at(sketch, by_letters(LATER), (1, 1))
            self.assertEqual(sketch.forth(), name)
            self.keeps_still(sketch, Nothing, sketch.forth)

    def test_a_refused_step_leaves_what_can_be_done_again(self):
        sketch = self.three_steps()
        sketch.back()
        sketch.back()
        self.keeps_still(sketch, NoRecord, sketch.write, None)
        self.keeps_still(sketch, NoRecord, sketch.read, 0, 0)
        self.keeps_still(sketch, NoNumber, sketch.read, 4, 50)
        self.keeps_still(sketch, NoNumber, sketch.cut, 1)
        self.assertEqual(sketch.counts(), (1, 2))
        self.assertEqual([sketch.forth(), sketch.forth()], ["read", "cut"])
        self.is_at(sketch, self.records[3], (3, 0))

    def test_steps_without_a_world(self):
        sketch = Sketch(NO_WORLD)
        sketch.write((C, D, 1, 2))
        self.assertEqual(sketch.back(), "write")
        self.is_at(sketch, NO_WORLD, (0, 1))
        self.assertEqual(sketch.forth(), "write")
        self.is_at(sketch, by_letters(LATER, BACK, (C, D, 1, 2)), (1, 0))


class Twin(Told):
    def test_as_this_one(self):
        sketch = Sketch(by_letters())
        for step in [lambda: sketch.write(LATER), lambda: sketch.write(BACK), lambda: sketch.read(0, 5), sketch.back,
                     lambda: sketch.cut(0), sketch.back, sketch.back, sketch.back, sketch.forth]:
            step()
            twin = sketch.twin()
            self.assertIsInstance(twin, Sketch)
            self.assertEqual(self.as_it_is(twin), self.as_it_is(sketch))

    def test_each_goes_by_itself(self):
        sketch = Sketch(by_letters())
        sketch.write(LATER)
        sketch.read(1, 4)
        sketch.back()
        twin = sketch.twin()
        before = self.as_it_is(sketch)
        self.assertEqual(twin.forth(), "read")
        twin.cut(0)
        self.assertEqual(self.as_it_is(sketch), before)
        before = self.as_it_is(twin)
        sketch.write(BACK)
        self.assertEqual(sketch.counts(), (2, 0))
        sketch.back()
        sketch.back()
        self.is_at(sketch, by_letters(), (0, 2))
        self.assertEqual(self.as_it_is(twin), before)
        self.assertEqual([twin.back(), twin.back(), twin.back()], ["cut", "read", "write"])
        self.is_at(twin, by_letters(), (0, 3))
        self.is_at(sketch, by_letters(), (0, 2))

    def test_back_and_forth_of_each_alone(self):
        sketch = Sketch(PAIR)
        sketch.cut(0)
        twin = sketch.twin()
        twin.back()
        self.is_at(sketch, (PAIR[0], ()), (1, 0))
        self.is_at(twin, PAIR, (0, 1))
        self.keeps_still(sketch, Nothing, sketch.forth)
        other = twin.twin()
        other.forth()
        self.is_at(twin, PAIR, (0, 1))
        self.is_at(other, (PAIR[0], ()), (1, 0))

    def test_a_twin_of_a_twin(self):
        sketch = Sketch(by_letters())
        sketch.write(LATER)
        one = sketch.twin()
        other = one.twin()
        one.write(BACK)
        other.back()
        self.is_at(sketch, by_letters(LATER), (1, 0))
        self.is_at(one, NO_WORLD, (2, 0))
        self.is_at(other, by_letters(), (0, 1))
        self.assertEqual([sketch.good(), one.good()], [by_letters(LATER), by_letters(LATER)])
        self.assertEqual(other.good(), by_letters())

    def test_of_one_without_a_world(self):
        twin = Sketch(NO_WORLD).twin()
        self.is_at(twin, NO_WORLD, (0, 0))
        self.assertIsNone(twin.good())
        self.keeps_still(twin, Nothing, twin.back)
        self.keeps_still(twin, Nothing, twin.forth)

    def test_two_sketches_of_one_record(self):
        one, other = Sketch(PAIR), Sketch(PAIR)
        one.cut(0)
        self.is_at(other, PAIR, (0, 0))


class Model:
    """What a sketch must tell: its records and words in a row, and the place of that now."""

    def __init__(self, record):
        self.records, self.words, self.place = [record], [None], 0

    def go_on(self, word, record):
        self.records = self.records[:self.place + 1] + [record]
        self.words = self.words[:self.place + 1] + [word]
        self.place += 1

    def good(self):
        fine = [record for record in self.records[:self.place + 1] if has_world(record)]
        return fine[-1] if fine else None

    def counts(self):
        return (self.place, len(self.records) - 1 - self.place)


class Together(Told):
    def step(self, draw, record):
        """A step that looks like drawn: its word, what it is given, and the change it stands for."""
        kind = draw.upto(0, 3)
        clocks = record[0]
        if kind == 0:
            number = draw.upto(0, len(clocks))
            last = clocks[number][2][-1] if number < len(clocks) else 50
            return ("read", (number, last + draw.upto(0, 3)), with_reading)
        if kind == 1:
            return ("cut", (draw.upto(0, 8),), without_letter)
        one, other = draw.upto(0, len(clocks) - 1), draw.upto(0, len(clocks) - 1)
        ends = ((one, draw.upto(0, len(clocks[one][2]) - 1)), (other, draw.upto(0, len(clocks[other][2]) - 1)))
        least = draw.upto(0, 9)
        return ("write", (ends + (least, None if kind == 2 else least + draw.upto(0, 9)),), with_letter)

    def change(self, draw, sketch, model):
        word, things, change = self.step(draw, sketch.record())
        try:
            record = change(sketch.record(), *things)
        except ClockError as refusal:
            self.keeps_still(sketch, type(refusal), getattr(sketch, word), *things)
            return
        self.assertIs(getattr(sketch, word)(*things), has_world(record))
        model.go_on(word, record)

    def go(self, sketch, model, call, to):
        if not 0 <= to < len(model.records):
            self.keeps_still(sketch, Nothing, call)
            return
        self.assertEqual(call(), model.words[max(model.place, to)])
        model.place = to

    def test_many_steps(self):
        for seed, record in enumerate(RECORDS[::6] + [(CLOCKS, ()), RECORD]):
            draw, sketch, model = Draw(seed), Sketch(record), Model(record)
            for _ in range(30):
                kind = draw.upto(0, 4)
                if kind < 3:
                    self.change(draw, sketch, model)
                elif kind == 3:
                    self.go(sketch, model, sketch.back, model.place - 1)
                else:
                    self.go(sketch, model, sketch.forth, model.place + 1)
                self.is_at(sketch, model.records[model.place], model.counts())
                self.assertEqual(repr_of(sketch.good()), repr_of(model.good()))
                self.assertIs(is_record(sketch.record()), True)


if __name__ == "__main__":
    unittest.main()
