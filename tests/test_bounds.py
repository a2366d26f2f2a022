import unittest

from farclocks.bounds import are_times, bounds, broken, is_world, of_letter
from farclocks.errors import NoNumber, NoRecord
from samples import (
    CLOCKS, FULL, LEAST, NO_RECORDS, ODD, PAIR, RECORD, as_list, leaves_unchanged, repr_of, with_clock, with_letters,
)

CLOCK_BOUNDS = [
    ((0, 0), (0, 1), 12), ((0, 1), (0, 0), -8),
    ((0, 1), (0, 2), 93), ((0, 2), (0, 1), -62),
    ((2, 0), (2, 1), 9), ((2, 1), (2, 0), -1),
    ((2, 1), (2, 2), 873), ((2, 2), (2, 1), -97),
    ((2, 2), (2, 3), 9), ((2, 3), (2, 2), -1),
]
LETTER_BOUNDS = [
    ((2, 0), (0, 1), -5), ((0, 1), (2, 0), 30),
    ((1, 0), (2, 0), 0),
    ((0, 0), (1, 0), -999), ((1, 0), (0, 0), 999),
]

PAIR_BOUNDS = [
    ((0, 0), (0, 1), 30), ((0, 1), (0, 0), -20),
    ((1, 0), (1, 1), 3), ((1, 1), (1, 0), -3),
    ((1, 1), (0, 0), -5), ((0, 0), (1, 1), 8),
]


class Bounds(unittest.TestCase):
    def test_clock_by_clock_then_letter_by_letter(self):
        self.assertEqual(bounds(RECORD), CLOCK_BOUNDS + LETTER_BOUNDS)
        self.assertEqual(bounds(PAIR), PAIR_BOUNDS)

    def test_without_letters(self):
        self.assertEqual(bounds((CLOCKS, ())), CLOCK_BOUNDS)

    def test_with_one_reading_there_are_none(self):
        self.assertEqual(bounds(LEAST), [])
        self.assertEqual(bounds((CLOCKS[1:2] * 4, ())), [])

    def test_only_neighbours_among_readings_are_bound(self):
        self.assertEqual(len(bounds(with_clock((1, 2, (0, 1, 2, 3))))), 6)

    def test_with_and_without_a_most(self):
        one, other = (0, 2), (1, 0)
        told = bounds(with_letters((one, other, 7, None), (one, other, 7, 7), (other, one, 0, None)))
        expected = [(other, one, -7), (other, one, -7), (one, other, 7), (one, other, 0)]
        self.assertEqual(told, CLOCK_BOUNDS + expected)

    def test_a_most_of_0_is_a_most(self):
        told = bounds(with_letters(((0, 0), (1, 0), 0, 0)))
        self.assertEqual(told, CLOCK_BOUNDS + [((1, 0), (0, 0), 0), ((0, 0), (1, 0), 0)])

    def test_kinds(self):
        self.assertEqual(repr_of(bounds(RECORD)), repr_of(CLOCK_BOUNDS + LETTER_BOUNDS))

    def test_a_full_record(self):
        told = bounds(FULL)
        self.assertEqual(len(told), 4 * 6 + 8)
        self.assertEqual(told[22:26], [((3, 2), (3, 3), 9), ((3, 3), (3, 2), -9)] + [((3, 3), (0, 0), -999)] * 2)

    def test_a_new_list_each_time(self):
        bounds(RECORD).clear()
        bounds(RECORD).append(None)
        self.assertEqual(bounds(RECORD), CLOCK_BOUNDS + LETTER_BOUNDS)

    def test_no_record(self):
        for thing in NO_RECORDS:
            with self.assertRaises(NoRecord):
                bounds(thing)


class OfLetter(unittest.TestCase):
    def test_each_letter(self):
        self.assertEqual([of_letter(RECORD, k) for k in range(3)], [[10, 11], [12], [13, 14]])
        self.assertEqual([of_letter(FULL, k) for k in range(8)], [[24 + k] for k in range(8)])

    def test_the_numbers_lead_to_the_letters_own_bounds(self):
        told = bounds(RECORD)
        own = [[told[number] for number in of_letter(RECORD, k)] for k in range(3)]
        self.assertEqual(own, [LETTER_BOUNDS[:2], LETTER_BOUNDS[2:3], LETTER_BOUNDS[3:]])

    def test_letters_that_are_alike(self):
        letter = ((0, 0), (1, 0), 1, 2)
        record = (CLOCKS[1:2] * 2, (((0, 0), (1, 0), 1, 2),) * 3)
        self.assertEqual([of_letter(record, k) for k in range(3)], [[0, 1], [2, 3], [4, 5]])
        self.assertEqual(bounds(record), [(letter[1], letter[0], -1), (letter[0], letter[1], 2)] * 3)

    def test_no_number(self):
        for number in ODD + [3, 4, 10, -3, (0,), [0], "0"]:
            with self.assertRaises(NoNumber, msg=repr_of(number)):
                of_letter(RECORD, number)
        with self.assertRaises(NoNumber):
            of_letter((CLOCKS, ()), 0)
        with self.assertRaises(NoNumber):
            of_letter(FULL, 8)

    def test_no_record_comes_first(self):
        for thing in NO_RECORDS:
            for number in [0, 99, None, True]:
                with self.assertRaises(NoRecord):
                    of_letter(thing, number)

    def test_a_new_list_each_time(self):
        of_letter(RECORD, 0).clear()
        of_letter(RECORD, 0).append(None)
        self.assertEqual(of_letter(RECORD, 0), [10, 11])

    def test_nothing_is_changed(self):
        def call(record, number):
            try:
                of_letter(record, number)
            except (NoRecord, NoNumber):
                pass
        for thing in [as_list(RECORD), RECORD]:
            for number in [0, [0], [[(0, [])]]]:
                leaves_unchanged(self, [thing, number], call)


class AreTimes(unittest.TestCase):
    def test_a_whole_number_for_each_event(self):
        for many in range(12):
            self.assertIs(are_times(RECORD, (7,) * many), many == 8, many)
        self.assertIs(are_times(LEAST, (0,)), True)
        self.assertIs(are_times(FULL, tuple(range(16))), True)
        self.assertIs(are_times(FULL, tuple(range(17))), False)

    def test_numbers_of_any_size(self):
        self.assertIs(are_times(PAIR, (-1, 0, 10 ** 5000, -10 ** 5000)), True)

    def test_times_need_not_be_a_world(self):
        self.assertIs(are_times(PAIR, (99, 0, 0, 0)), True)

    def test_any_thing(self):
        for odd in ODD:
            self.assertIs(are_times(RECORD, odd), False, repr_of(odd))
        for odd in ODD:
            whole = isinstance(odd, int) and not isinstance(odd, bool)
            for k in range(4):
                times = (0,) * k + (odd,) + (0,) * (3 - k)
                self.assertIs(are_times(PAIR, times), whole, repr_of(times))

    def test_no_list_and_no_text(self):
        for thing in [[0], "0", 0, [(0,)], ((0,),), (True,), (False,), (None,), ("0",)]:
            self.assertIs(are_times(LEAST, thing), False, thing)

    def test_no_record_comes_first(self):
        for thing in NO_RECORDS:
            for times in [(0,), None, thing]:
                with self.assertRaises(NoRecord):
                    are_times(thing, times)

    def test_the_thing_is_not_changed(self):
        for thing in ODD + [[0, 0, 0, 0], [[(0, [])]]]:
            leaves_unchanged(self, [PAIR, thing], are_times)


class Broken(unittest.TestCase):
    def test_none(self):
        self.assertEqual(broken(PAIR, (0, 20, 2, 5)), [])
        self.assertEqual(broken(PAIR, (-100, -70, -95, -92)), [])
        self.assertEqual(broken(LEAST, (-5,)), [])

    def test_each_bound_just_inside_and_just_beyond(self):
        cases = [
            ((0, 30, 2, 5), []), ((0, 31, 2, 5), [0]),
            ((0, 20, 2, 5), []), ((0, 19, 2, 5), [1]),
            ((0, 25, 1, 5), [2]), ((0, 25, 3, 5), [3]),
            ((0, 25, 2, 5), []), ((0, 25, 1, 4), [4]),
            ((0, 25, 5, 8), []), ((0, 25, 6, 9), [5]),
        ]
        for times, expected in cases:
            self.assertEqual(broken(PAIR, times), expected, times)

    def test_several_rise(self):
        self.assertEqual(broken(PAIR, (0, 0, 0, 0)), [1, 3, 4])
        self.assertEqual(broken(PAIR, (0, 99, 0, 99)), [0, 2, 5])

    def test_no_most_is_no_bound(self):
        record = (CLOCKS[1:2] * 2, (((0, 0), (1, 0), 4, None),))
        self.assertEqual(broken(record, (0, 10 ** 5000)), [])
        self.assertEqual(broken(record, (0, 4)), [])
        self.assertEqual(broken(record, (0, 3)), [0])

    def test_as_told_by_the_bounds(self):
        places = {event: k for k, event in enumerate([(0, 0), (0, 1), (1, 0), (1, 1)])}
        for one in range(-3, 40, 7):
            for other in range(-3, 12, 2):
                for last in range(0, 12):
                    times = (0, one, other, last)
                    expected = []
                    for number, (start, end, most) in enumerate(PAIR_BOUNDS):
                        if times[places[end]] - times[places[start]] > most:
                            expected.append(number)
                    self.assertEqual(broken(PAIR, times), expected, times)
                    self.assertIs(is_world(PAIR, times), expected == [], times)

    def test_a_new_list_each_time(self):
        broken(PAIR, (0, 0, 0, 0)).clear()
        broken(PAIR, (0, 20, 2, 5)).append(None)
        self.assertEqual(broken(PAIR, (0, 0, 0, 0)), [1, 3, 4])
        self.assertEqual(broken(PAIR, (0, 20, 2, 5)), [])

    def test_kinds(self):
        self.assertEqual(repr_of(broken(PAIR, (0, 0, 0, 0))), repr_of([1, 3, 4]))

    def test_no_record(self):
        for thing in NO_RECORDS:
            with self.assertRaises(NoRecord):
                broken(thing, (0,))


class IsWorld(unittest.TestCase):
    def test_worlds(self):
        for times in [(0, 20, 2, 5), (0, 30, 5, 8), (-7, 18, -5, -2), (10 ** 30, 10 ** 30 + 20, 10 ** 30 + 2, 10 ** 30 + 5)]:
            self.assertIs(is_world(PAIR, times), True, times)
        self.assertIs(is_world(LEAST, (123,)), True)

    def test_times_that_break_a_bound(self):
        for times in [(0, 31, 2, 5), (0, 19, 2, 5), (0, 25, 1, 5), (0, 25, 3, 5), (0, 25, 1, 4), (0, 25, 6, 9)]:
            self.assertIs(is_world(PAIR, times), False, times)

    def test_what_are_no_times(self):
        for thing in ODD + [[0, 20, 2, 5], (0, 20, 2), (0, 20, 2, 5, 0), (False, 20, 2, 5), ("0", 20, 2, 5)]:
            self.assertIs(is_world(PAIR, thing), False, repr_of(thing))
        for thing in [True, (True,), [0], (None,), ((0,),), "0"]:
            self.assertIs(is_world(LEAST, thing), False, thing)

    def test_no_record_comes_first(self):
        for thing in NO_RECORDS:
            for times in [(0,), None, thing]:
                with self.assertRaises(NoRecord):
                    is_world(thing, times)

    def test_the_thing_is_not_changed(self):
        for thing in ODD + [[0, 20, 2, 5], [[(0, [])]]]:
            leaves_unchanged(self, [PAIR, thing], is_world)


if __name__ == "__main__":
    unittest.main()
