import itertools
import math
import unittest
from fractions import Fraction

from farclocks.bounds import bounds
from farclocks.errors import NoRecord
from farclocks.records import events
from farclocks.room import room, shows_room, tight_round
from farclocks.worlds import bars, has_world
from samples import (
    A, AT_ONCE, B, C, CLOCKS, D, EIGHT, EIGHT_WITHOUT_WORLD, FULL, LEAST, NO_RECORDS, NO_WORLD, ODD, PAIR, RECORD,
    RECORDS, WITH_WORLD, WITHOUT_WORLD, by_letters, comes_to, leaves_unchanged, mosts, refuses, repr_of, with_clock,
)

# Records with what room they have, reckoned by hand.
BY_HAND = [
    (by_letters((A, B, 5, 8)), (3, 2)),
    (by_letters((A, B, 5, 9)), (2, 1)),
    (by_letters((A, B, 5, 5)), (0, 1)),
    (by_letters((A, B, 0, 999)), (999, 2)),
    (by_letters((A, B, 0, 0)), (0, 1)),
    (AT_ONCE, (0, 1)),
    (NO_WORLD, (-5, 2)),
    (by_letters((A, B, 999, None), (B, A, 999, None)), (-999, 1)),
    (by_letters((A, B, 1, None), (B, C, 0, None), (C, A, 0, None)), (-1, 3)),
    (by_letters((A, B, 1, None), (B, C, 1, None), (C, A, 1, None)), (-1, 1)),
    (by_letters((A, B, 1, None), (B, C, 0, None), (C, D, 1, None), (D, A, 0, None)), (-1, 2)),
    (by_letters((A, B, 1, None), (B, C, 2, None), (C, D, 1, None), (D, A, 1, None)), (-5, 4)),
    (by_letters((A, B, 0, 10), (C, D, 4, 7), (A, D, 0, None)), (3, 2)),
    # The round of three comes to more than one of two, but to less for each.
    (by_letters((A, B, 0, 5), (A, C, 1, None), (C, B, 0, None)), (4, 3)),
    (with_clock((1, 2, (0, 3))), (3, 2)),
    (with_clock((2, 3, (0, 10))), (5, 1)),
    (with_clock((1, 9, (0, 99))), (396, 1)),
    (with_clock((1, 2, (0, 3, 8, 10))), (1, 1)),
    (with_clock((9, 9, (0, 99))), (0, 1)),
    (with_clock((2, 3, (0, 4, 7, 8))), (1, 2)),
    ((((1, 3, (0, 5)),), (((0, 0), (0, 1), 7, 12),)), (5, 2)),
    (PAIR, (0, 1)),
    (FULL, (0, 1)),
    (RECORD, (-253, 1)),
    (EIGHT, (1, 2)),
    (EIGHT_WITHOUT_WORLD, (-959, 2)),
]

# No round of bounds leads anywhere here, so that the mosts could be less by any.
ANY = [
    LEAST, by_letters(), with_clock((3, 7, (99,))), by_letters((A, B, 5, None)),
    by_letters((A, B, 5, None), (B, C, 5, None), (A, C, 999, None), (A, D, 0, None)),
    by_letters(*[(A, B, k, None) for k in range(8)]),
]


def limits_less(record, up, down):
    """The bounds with all mosts less by a fraction, and times its down."""
    return [(one, other, most * down - up) for one, other, most in bounds(record)]


def by_steps(record):
    """The room, as the least of what walks of each length come to tells it, event by event."""
    places, limits = events(record), bounds(record)
    rows = [{place: 0 for place in places}]
    for _ in places:
        row = {}
        for one, other, most in limits:
            if one in rows[-1]:
                row[other] = min(row.get(other, rows[-1][one] + most), rows[-1][one] + most)
        rows.append(row)
    many = len(places)
    told = [
        max(Fraction(rows[many][place] - rows[k][place], many - k) for k in range(many) if place in rows[k])
        for place in rows[many]
    ]
    return min(told) if told else None


class Room(unittest.TestCase):
    def test_by_hand(self):
        for record, expected in BY_HAND:
            self.assertEqual(repr_of(room(record)), repr_of(expected), record)

    def test_any(self):
        for record in ANY:
            self.assertIsNone(room(record), record)

    def test_in_lowest_terms(self):
        for record in RECORDS:
            told = room(record)
            if told is not None:
                self.assertEqual(repr_of(told), repr_of((int(told[0]), int(told[1]))))
                self.assertGreater(told[1], 0)
                self.assertEqual(math.gcd(told[0], told[1]), 1)

    def test_as_reckoned_otherwise(self):
        for record in RECORDS + [record for record, told in BY_HAND] + ANY:
            told = room(record)
            self.assertEqual(None if told is None else Fraction(told[0], told[1]), by_steps(record), record)

    def test_kinds_of_room_that_the_samples_have(self):
        told = [Fraction(up, down) for up, down in [room(record) for record in RECORDS if room(record) is not None]]
        self.assertTrue([one for one in told if one < 0 and one.denominator > 2])
        self.assertTrue([one for one in told if one < 0 and one.denominator == 1])
        self.assertTrue([one for one in told if one == 0])
        self.assertTrue([one for one in told if one > 0 and one.denominator > 1])
        self.assertTrue([one for one in told if one > 0 and one.denominator == 1])

    def test_less_by_it_there_are_times(self):
        for record in RECORDS:
            if room(record) is None:
                continue
            up, down = room(record)
            places = events(record)
            most = mosts(places, limits_less(record, up, down))
            self.assertIsNotNone(most, record)
            times = {}
            for other in places:
                times[other] = Fraction(min(most[one, other] for one in places if most[one, other] is not None), down)
            for one, other, many in bounds(record):
                self.assertLessEqual(times[other] - times[one], many - Fraction(up, down), record)

    def test_less_by_more_there_are_none(self):
        for record in RECORDS:
            if room(record) is None:
                continue
            up, down = room(record)
            for more, of in [(1, 1000), (1, 17), (1, 1), (1000, 1)]:
                less = limits_less(record, up * of + more * down, down * of)
                self.assertIsNone(mosts(events(record), less), (record, more, of))

    def test_less_by_any(self):
        for record in ANY:
            for up, down in [(10 ** 6, 1), (1, 7), (-3, 2)]:
                self.assertIsNotNone(mosts(events(record), limits_less(record, up, down)))

    def test_below_0_just_without_a_world(self):
        for record in WITH_WORLD:
            self.assertTrue(room(record) is None or room(record)[0] >= 0, record)
        for record in WITHOUT_WORLD:
            self.assertLess(room(record)[0], 0, record)

    def test_no_record(self):
        for thing in NO_RECORDS:
            refuses(self, NoRecord, room, thing)


class TightRound(unittest.TestCase):
    def is_round(self, record, numbers):
        limits = bounds(record)
        self.assertIs(type(numbers), list)
        self.assertTrue(numbers)
        for number, behind in zip(numbers, numbers[1:] + numbers[:1]):
            self.assertIs(type(number), int)
            self.assertIn(number, range(len(limits)))
            self.assertEqual(limits[number][1], limits[behind][0])

    def test_leads_round_and_comes_to_the_room(self):
        for record in RECORDS + [record for record, told in BY_HAND]:
            told = tight_round(record)
            if room(record) is None:
                self.assertIsNone(told)
                continue
            self.is_round(record, told)
            self.assertEqual(Fraction(comes_to(bounds(record), told), len(told)), Fraction(*room(record)), record)

    def test_the_only_one(self):
        for record, numbers in [
            (by_letters((A, B, 5, 8)), [0, 1]),
            (by_letters((A, B, 0, 5), (A, C, 1, None), (C, B, 0, None)), [1, 3, 2]),
            (with_clock((1, 2, (0, 3, 8, 10))), [4, 5]),
        ]:
            told = tight_round(record)
            first = told.index(min(told))
            self.assertEqual(told[first:] + told[:first], numbers, record)

    def test_any(self):
        for record in ANY:
            self.assertIsNone(tight_round(record), record)

    def test_bars_just_without_a_world(self):
        for record in RECORDS:
            told = tight_round(record)
            if told is not None:
                self.assertIs(bars(record, told), not has_world(record), record)

    def test_a_new_list_each_time(self):
        for record in [PAIR, FULL, NO_WORLD, EIGHT, (CLOCKS, ())]:
            before = list(tight_round(record))
            tight_round(record).clear()
            tight_round(record).append(None)
            self.assertEqual(tight_round(record), before)

    def test_no_record(self):
        for thing in NO_RECORDS:
            refuses(self, NoRecord, tight_round, thing)


class ShowsRoom(unittest.TestCase):
    # Bounds: 0 from B to A, -5; 1 from A to B, 8; 2 from C to B, -2; 3 from B to C, 3; 4 from D to C, -1.
    record = by_letters((A, B, 5, 8), (B, C, 2, 3), (C, D, 1, None))

    def check(self, fraction, thing, told):
        self.assertIs(shows_room(self.record, fraction, thing), told, (fraction, repr_of(thing)))

    def test_just_so_much_and_more_but_not_less(self):
        for numbers in [[0, 1], [1, 0]]:
            for fraction in [(3, 2), (2, 1), (1000, 1), (151, 100)]:
                self.check(fraction, numbers, True)
            for fraction in [(1, 1), (0, 1), (-3, 2), (-1000, 1), (149, 100)]:
                self.check(fraction, numbers, False)

    def test_fractions_that_are_not_in_lowest_terms(self):
        for times in [2, 3, 1000]:
            self.check((3 * times, 2 * times), [0, 1], True)
            self.check((3 * times - 1, 2 * times), [0, 1], False)
            self.check((3 * times + 1, 2 * times), [0, 1], True)
        self.check((0, 7), [0, 1], False)
        self.assertIs(shows_room(AT_ONCE, (0, 7), [0, 1]), True)
        self.assertIs(shows_room(AT_ONCE, (-1, 7), [0, 1]), False)

    def test_fractions_below_0(self):
        for fraction, told in [((-5, 2), True), ((-10, 4), True), ((-2, 1), True), ((-3, 1), False), ((-11, 4), False)]:
            self.assertIs(shows_room(NO_WORLD, fraction, [0, 2]), told, fraction)
        self.assertIs(shows_room(NO_WORLD, (-1, 10 ** 30), [0, 2]), True)
        self.assertIs(shows_room(NO_WORLD, (-10 ** 30, 1), [0, 2]), False)

    def test_nothing_shows_what_is_no_fraction(self):
        for fraction in ODD + [(3,), (3, 2, 1), (3, 0), (-3, 0), (9, -1), (3, True), (True, 1), ("3", 2), (3, "2"), 3]:
            self.check(fraction, [0, 1], False)

    def test_rounds_that_pass_an_event_more_than_once(self):
        self.check((1, 1), [1, 3, 2, 0], True)
        self.check((99, 100), [1, 3, 2, 0], False)
        self.check((3, 2), [0, 1, 0, 1], True)
        self.check((1, 1), [0, 1] * 50, False)
        self.check((3, 2), [0, 1] * 50, True)

    def test_what_does_not_lead_round(self):
        for thing in [
            [0], [1], [4], [1, 3], [0, 0], [1, 1], [0, 2], [3, 1], [1, 3, 2], [0, 1, 4], [4, 2, 0], [0, 1, 0],
        ]:
            self.check((1000, 1), thing, False)

    def test_things_that_are_no_such_lists(self):
        more = [(0, 1), [(0, 1)], ["0", "1"], "01", {0: 1}, [0, 1, None], [[0], [1]], [[0, 1]], 0, [0, "1"]]
        for thing in ODD + more + [[5, 5], [0, 5], [-5, -4], [-1], [0, 1, 10 ** 5000]]:
            self.check((1000, 1), thing, False)

    def test_truths_are_no_numbers(self):
        for thing in [[0, True], [False, 1], [False, True], [True, 0], [1, False]]:
            self.check((1000, 1), thing, False)

    def test_an_empty_list(self):
        for record in [self.record, LEAST, NO_WORLD, FULL]:
            for fraction in [(0, 1), (1000, 1), (-1, 1)]:
                self.assertIs(shows_room(record, fraction, []), False)

    def test_no_bounds(self):
        for thing in ODD + [[0, 1]]:
            self.assertIs(shows_room(LEAST, (1000, 1), thing), False)

    def test_the_tight_round_shows_the_room(self):
        for record in RECORDS:
            if room(record) is None:
                continue
            up, down = room(record)
            told = tight_round(record)
            self.assertIs(shows_room(record, (up, down), told), True, record)
            self.assertIs(shows_room(record, (up * 7, down * 7), told), True, record)
            self.assertIs(shows_room(record, (up * 1000 + 1, down * 1000), told), True, record)
            self.assertIs(shows_room(record, (up * 1000 - 1, down * 1000), told), False, record)

    def test_nothing_shows_less_than_the_room(self):
        for record in [self.record, NO_WORLD, AT_ONCE, by_letters((A, B, 0, 5), (A, C, 1, None), (C, B, 0, None))]:
            up, down = room(record)
            for many in range(1, 5):
                for numbers in itertools.product(range(len(bounds(record))), repeat=many):
                    self.assertIs(shows_room(record, (up * 1000 - 1, down * 1000), list(numbers)), False)

    def test_all_short_lists(self):
        limits = bounds(self.record)
        for many in range(1, 5):
            for numbers in itertools.product(range(len(limits)), repeat=many):
                ends = [limits[number][1] for number in numbers]
                begins = [limits[number][0] for number in numbers]
                leads = ends[:-1] == begins[1:] and ends[-1] == begins[0]
                for up, down in [(1, 1), (3, 2), (1, 2), (4, 4), (0, 1)]:
                    expected = leads and Fraction(comes_to(limits, numbers), many) <= Fraction(up, down)
                    self.check((up, down), list(numbers), expected)

    def test_no_record(self):
        for thing in NO_RECORDS:
            refuses(self, NoRecord, shows_room, thing, (0, 1), [0, 1])
            refuses(self, NoRecord, shows_room, thing, (0, 1), thing)

    def test_nothing_is_changed(self):
        for thing in [[0, 1], [1, 3], [], [[0], [1]], [None, [True]]]:
            leaves_unchanged(self, [self.record, (3, 2), thing], shows_room)


if __name__ == "__main__":
    unittest.main()
