import itertools
import unittest

from farclocks.changes import led_together, truer, with_letter, with_reading, without_letter
from farclocks.errors import NoNumber, NoRecord
from farclocks.needs import same_worlds
from farclocks.records import is_record
from farclocks.worlds import has_world
from samples import (
    A, B, C, CLOCKS, D, DEEPEST, EIGHT, FULL, FULL_CLOCK, LEAST, LETTERS, NAMED, NO_RECORDS, NO_WORLD, ODD, ONCE, PAIR,
    RECORD, RECORDS, SMALL, WITHOUT_WORLD, as_list, by_letters, leaves_unchanged, refuses, repr_of, tried_worlds,
    with_clock,
)

# Numbers that none of up to four clocks and eight letters has, and things that are none.
NO_NUMBERS = ODD + [-2, 8, 9, 99, (0,), "1", [1], (0, 0)]

# What no letter of by_letters() is, each wrong in one thing.
NO_LETTERS = ODD + [
    (A, B, 0), (A, B), (A, B, 0, 1, 2), [A, B, 0, 1], (list(A), B, 0, 1), (A, list(B), 0, 1), (A, A, 0, 1),
    (A, A, 0, None), (A, (4, 0), 0, 1), ((0, 1), B, 0, 1), (A, (1, 1), 0, 1), (A, (-1, 0), 0, 1), (A, (1, -1), 0, 1),
    (A, B, -1, 1), (A, B, 2, 1), (A, B, 0, 1000), (A, B, 1000, None), (A, B, None, 1), (A, B, None, None),
    (A, B, True, 1), (A, B, 0, True), (A, B, False, 1), (A, B, 0, False), (A, (True, 0), 0, 1), ((False, 0), B, 0, 1),
    (A, B, "0", 1), (A, B, 0, "1"), (A, B, 0, (1,)), (A, B, 0, 10 ** 5000), (None, B, 0, 1), (A, None, 0, 1),
    ((A, B, 0, 1),), [(A, B, 0, 1)], (0, 1, 0, 1),
]


class WithLetter(unittest.TestCase):
    def test_behind_all_letters(self):
        for record, letter in [
            (by_letters(), (A, B, 0, 0)), (by_letters((C, D, 5, 8)), (A, B, 0, 999)), (NO_WORLD, (D, A, 3, 3)),
            (PAIR, ((1, 0), (0, 1), 999, None)), (RECORD, ((2, 3), (0, 2), 0, None)),
            (with_clock((1, 2, (0, 1))), ((0, 1), (0, 0), 0, 5)),
        ]:
            told = with_letter(record, letter)
            self.assertEqual(repr_of(told), repr_of((record[0], record[1] + (letter,))))
            self.assertIs(is_record(told), True)

    def test_a_letter_that_is_there_already(self):
        letter = (A, B, 5, 8)
        self.assertEqual(with_letter(by_letters(letter), letter), by_letters(letter, letter))

    def test_one_that_leaves_no_world(self):
        told = with_letter(by_letters((A, B, 5, 8)), (B, A, 0, None))
        self.assertEqual(told, NO_WORLD)
        self.assertIs(has_world(told), False)

    def test_up_to_eight(self):
        record = by_letters()
        for many in range(8):
            record = with_letter(record, (A, B, many, None))
        self.assertEqual(record, by_letters(*[(A, B, many, None) for many in range(8)]))
        refuses(self, NoRecord, with_letter, record, (A, B, 0, None))
        refuses(self, NoRecord, with_letter, EIGHT, (A, B, 0, None))
        refuses(self, NoRecord, with_letter, FULL, FULL[1][0])

    def test_the_least_record_takes_none(self):
        for letter in NO_LETTERS + [(A, A, 0, None), (A, B, 0, 1), ((0, 0), (0, 1), 0, 1)]:
            refuses(self, NoRecord, with_letter, LEAST, letter)

    def test_any_thing_that_is_no_letter(self):
        for record in [by_letters(), by_letters((A, B, 5, 8)), NO_WORLD, EIGHT]:
            for letter in NO_LETTERS:
                refuses(self, NoRecord, with_letter, record, letter)

    def test_no_record(self):
        for thing in NO_RECORDS:
            for letter in [(A, B, 0, 1), None, thing]:
                refuses(self, NoRecord, with_letter, thing, letter)

    def test_no_more_worlds(self):
        for record in SMALL[:20]:
            worlds = set(tried_worlds(record, DEEPEST))
            for letter in [(A, B, 1, 2), (B, A, 0, None)]:
                if is_record((record[0], record[1] + (letter,))):
                    self.assertLessEqual(set(tried_worlds(with_letter(record, letter), DEEPEST)), worlds)

    def test_nothing_is_changed(self):
        for letter in [(A, B, 0, 1), as_list((A, B, 0, 1)), [], [[A], None]]:
            leaves_unchanged(self, [by_letters(), letter], lambda *things: told_or_refused(with_letter, *things))


def told_or_refused(call, *things):
    try:
        return call(*things)
    except (NoRecord, NoNumber) as refusal:
        return type(refusal)


class WithoutLetter(unittest.TestCase):
    def test_each_letter_of_each_record(self):
        for record in RECORDS:
            for number in range(len(record[1])):
                letters = [letter for k, letter in enumerate(record[1]) if k != number]
                told = without_letter(record, number)
                self.assertEqual(repr_of(told), repr_of((record[0], tuple(letters))), (record, number))

    def test_of_letters_alike_just_one(self):
        self.assertEqual(without_letter(FULL, 0), (FULL[0], FULL[1][:7]))
        self.assertEqual(without_letter(FULL, 7), (FULL[0], FULL[1][:7]))

    def test_down_to_none(self):
        record = EIGHT
        for many in range(8, 0, -1):
            refuses(self, NoNumber, without_letter, record, many)
            record = without_letter(record, many - 1)
        self.assertEqual(record, by_letters())
        refuses(self, NoNumber, without_letter, record, 0)

    def test_takes_back_with_letter(self):
        for record in NAMED:
            if len(record[1]) < 8 and len(record[0]) > 1:
                self.assertEqual(without_letter(with_letter(record, (A, B, 0, None)), len(record[1])), record)

    def test_no_number(self):
        for record in [PAIR, EIGHT, RECORD, FULL, NO_WORLD]:
            for number in NO_NUMBERS + [len(record[1]), -len(record[1])]:
                refuses(self, NoNumber, without_letter, record, number)
        for number in NO_NUMBERS + [0]:
            refuses(self, NoNumber, without_letter, LEAST, number)

    def test_no_record_comes_first(self):
        for thing in NO_RECORDS:
            for number in [0, 99, None, True]:
                refuses(self, NoRecord, without_letter, thing, number)


class WithReading(unittest.TestCase):
    def test_ordinary(self):
        self.assertEqual(with_reading(LEAST, 0, 1), with_clock((1, 1, (0, 1))))
        self.assertEqual(with_reading(LEAST, 0, 99), with_clock((1, 1, (0, 99))))
        self.assertEqual(with_reading(PAIR, 0, 11), (((2, 3, (0, 10, 11)), (1, 1, (4, 7))), PAIR[1]))
        self.assertEqual(with_reading(PAIR, 1, 99), (((2, 3, (0, 10)), (1, 1, (4, 7, 99))), PAIR[1]))
        self.assertEqual(with_reading(RECORD, 1, 5), ((CLOCKS[0], (1, 1, (0, 5)), CLOCKS[2]), LETTERS))
        self.assertEqual(with_reading(NO_WORLD, 3, 7), (ONCE[:3] + ((1, 1, (0, 7)),), NO_WORLD[1]))

    def test_what_is_told_is_a_record(self):
        for record in RECORDS:
            for number, clock in enumerate(record[0]):
                reading = clock[2][-1] + 1
                expected = record[0][:number] + (clock[:2] + (clock[2] + (reading,),),) + record[0][number + 1:]
                if len(clock[2]) < 4 and reading < 100:
                    told = with_reading(record, number, reading)
                    self.assertEqual(repr_of(told), repr_of((expected, record[1])))
                    self.assertIs(is_record(told), True)
                else:
                    refuses(self, NoRecord, with_reading, record, number, reading)

    def test_up_to_four(self):
        record = LEAST
        for reading in [5, 6, 99]:
            record = with_reading(record, 0, reading)
        self.assertEqual(record, with_clock((1, 1, (0, 5, 6, 99))))
        refuses(self, NoRecord, with_reading, with_clock((1, 1, (0, 1, 2, 3))), 0, 4)
        refuses(self, NoRecord, with_reading, RECORD, 2, 99)
        refuses(self, NoRecord, with_reading, FULL, 3, 99)

    def test_only_behind_all(self):
        for reading in [0, 4, 9, 10]:
            refuses(self, NoRecord, with_reading, PAIR, 0, reading)
        for reading in [0, 7]:
            refuses(self, NoRecord, with_reading, PAIR, 1, reading)
        refuses(self, NoRecord, with_reading, LEAST, 0, 0)
        refuses(self, NoRecord, with_reading, with_clock((1, 1, (99,))), 0, 99)
        refuses(self, NoRecord, with_reading, with_clock((1, 1, (99,))), 0, 98)

    def test_no_reading(self):
        for reading in ODD + [100, 101, "11", (11,), [11], (0, 11)]:
            refuses(self, NoRecord, with_reading, PAIR, 0, reading)

    def test_no_number_comes_ahead_of_what_comes_of_it(self):
        for record in [PAIR, RECORD, FULL, NO_WORLD, LEAST]:
            for number in NO_NUMBERS + [len(record[0]), -1]:
                for reading in [99, 0, None, True, [5]]:
                    refuses(self, NoNumber, with_reading, record, number, reading)

    def test_no_record_comes_first(self):
        for thing in NO_RECORDS:
            for number, reading in itertools.product([0, 99, None, True], [50, None, True]):
                refuses(self, NoRecord, with_reading, thing, number, reading)

    def test_a_reading_more_leaves_as_many_worlds(self):
        for record in WITHOUT_WORLD:
            if len(record[0][0][2]) < 4:
                self.assertIs(has_world(with_reading(record, 0, 99)), False)

    def test_nothing_is_changed(self):
        for reading in [11, [11], [[None]], 0]:
            leaves_unchanged(self, [PAIR, 0, reading], lambda *things: told_or_refused(with_reading, *things))
            leaves_unchanged(self, [PAIR, [0], reading], lambda *things: told_or_refused(with_reading, *things))


class Truer(unittest.TestCase):
    def test_ordinary(self):
        self.assertEqual(truer(LEAST, 0, 1, 9), with_clock((1, 9, (0,))))
        self.assertEqual(truer(LEAST, 0, 9, 9), with_clock((9, 9, (0,))))
        self.assertEqual(truer(PAIR, 0, 3, 3), (((3, 3, (0, 10)), PAIR[0][1]), PAIR[1]))
        self.assertEqual(truer(PAIR, 1, 4, 5), ((PAIR[0][0], (4, 5, (4, 7))), PAIR[1]))
        self.assertEqual(truer(RECORD, 1, 2, 2), ((CLOCKS[0], (2, 2, (0,)), CLOCKS[2]), LETTERS))
        self.assertEqual(truer(FULL, 3, 1, 2), ((FULL_CLOCK,) * 3 + ((1, 2, FULL_CLOCK[2]),), FULL[1]))

    def test_wider_and_the_same(self):
        self.assertEqual(truer(PAIR, 0, 2, 3), PAIR)
        self.assertEqual(truer(PAIR, 0, 1, 9), (((1, 9, (0, 10)), PAIR[0][1]), PAIR[1]))
        self.assertIs(same_worlds(truer(LEAST, 0, 3, 7), LEAST), True)

    def test_all_paces(self):
        for slow, fast in itertools.product(range(-1, 12), repeat=2):
            if 1 <= slow <= fast <= 9:
                told = truer(PAIR, 1, slow, fast)
                self.assertEqual(repr_of(told), repr_of(((PAIR[0][0], (slow, fast, (4, 7))), PAIR[1])))
            else:
                refuses(self, NoRecord, truer, PAIR, 1, slow, fast)

    def test_no_pace(self):
        for thing in ODD + ["3", (3,), [3]]:
            refuses(self, NoRecord, truer, PAIR, 0, thing, 3)
            refuses(self, NoRecord, truer, PAIR, 0, 2, thing)
            refuses(self, NoRecord, truer, LEAST, 0, thing, thing)

    def test_no_number_comes_ahead_of_what_comes_of_it(self):
        for record in [PAIR, RECORD, FULL, NO_WORLD, LEAST]:
            for number in NO_NUMBERS + [len(record[0])]:
                for slow, fast in [(1, 1), (3, 2), (None, True), (0, 10)]:
                    refuses(self, NoNumber, truer, record, number, slow, fast)

    def test_no_record_comes_first(self):
        for thing in NO_RECORDS:
            for number, slow in itertools.product([0, 99, None, True], [1, 10, None]):
                refuses(self, NoRecord, truer, thing, number, slow, 2)

    def test_nothing_is_changed(self):
        for thing in [3, [3], [[None]]]:
            leaves_unchanged(self, [PAIR, 0, 2, thing], lambda *things: told_or_refused(truer, *things))
            leaves_unchanged(self, [PAIR, thing, thing, 3], lambda *things: told_or_refused(truer, *things))


class LedTogether(unittest.TestCase):
    one, two, three = (A, B, 5, 8), (B, C, 2, None), (A, B, 5, 9)

    def test_the_letters_of_the_one_then_those_of_the_other(self):
        for first, second, expected in [
            ((), (), ()),
            ((self.one,), (), (self.one,)),
            ((), (self.one,), (self.one,)),
            ((self.one,), (self.two,), (self.one, self.two)),
            ((self.two,), (self.one,), (self.two, self.one)),
            ((self.one, self.two), (self.three,), (self.one, self.two, self.three)),
            ((self.one,), (self.three, self.two), (self.one, self.three, self.two)),
        ]:
            told = led_together(by_letters(*first), by_letters(*second))
            self.assertEqual(repr_of(told), repr_of(by_letters(*expected)))

    def test_letters_that_both_have(self):
        for first, second, expected in [
            ((self.one,), (self.one,), (self.one,)),
            ((self.one, self.two), (self.two, self.one), (self.one, self.two)),
            ((self.one, self.two), (self.three, self.two), (self.one, self.two, self.three)),
            ((self.one, self.one), (self.one, self.two), (self.one, self.one, self.two)),
            ((self.one,), (self.two, self.two), (self.one, self.two, self.two)),
            ((self.one,), (self.one, self.one), (self.one,)),
        ]:
            self.assertEqual(led_together(by_letters(*first), by_letters(*second)), by_letters(*expected))

    def test_letters_that_differ_in_one_thing_are_both_kept(self):
        for other in [(B, A, 5, 8), (A, C, 5, 8), (A, B, 4, 8), (A, B, 5, None)]:
            self.assertEqual(led_together(by_letters(self.one), by_letters(other)), by_letters(self.one, other))

    def test_a_record_and_itself(self):
        for record in RECORDS:
            self.assertEqual(led_together(record, record), record)
            self.assertEqual(led_together(record, (record[0], ())), record)
            self.assertEqual(led_together((record[0], ()), record), record)

    def test_too_many(self):
        some = [(A, B, k, None) for k in range(9)]
        self.assertEqual(led_together(by_letters(*some[:4]), by_letters(*some[4:8])), by_letters(*some[:8]))
        self.assertEqual(led_together(by_letters(*some[:8]), by_letters(*some[:8])), by_letters(*some[:8]))
        self.assertEqual(led_together(by_letters(*some[:5]), by_letters(*some[2:8])), by_letters(*some[:8]))
        refuses(self, NoRecord, led_together, by_letters(*some[:8]), by_letters(some[8]))
        refuses(self, NoRecord, led_together, by_letters(some[8]), by_letters(*some[:8]))
        refuses(self, NoRecord, led_together, by_letters(*some[:5]), by_letters(*some[5:9]))

    def test_unlike_clocks(self):
        for clocks in [
            ONCE[:3], ONCE[1:] + ((1, 2, (0,)),), ONCE[1:] + ((1, 1, (1,)),), ONCE[1:] + ((1, 1, (0, 1)),), CLOCKS,
        ]:
            refuses(self, NoRecord, led_together, by_letters(), (clocks, ()))
            refuses(self, NoRecord, led_together, (clocks, ()), by_letters())
        clocks = PAIR[0]
        refuses(self, NoRecord, led_together, (clocks, ()), (clocks[::-1], ()))

    def test_one_that_has_no_world(self):
        self.assertEqual(led_together(by_letters(NO_WORLD[1][0]), by_letters(NO_WORLD[1][1])), NO_WORLD)

    def test_no_record(self):
        for thing in NO_RECORDS:
            for other in [LEAST, NO_WORLD, thing]:
                refuses(self, NoRecord, led_together, thing, other)
                refuses(self, NoRecord, led_together, other, thing)

    def test_nothing_is_changed(self):
        for thing in [PAIR, [LEAST], as_list(PAIR), [[(0, [])]]]:
            leaves_unchanged(self, [PAIR, thing], lambda *things: told_or_refused(led_together, *things))
            leaves_unchanged(self, [thing, PAIR], lambda *things: told_or_refused(led_together, *things))


if __name__ == "__main__":
    unittest.main()
