import unittest

from farclocks.errors import NoEvent, NoRecord
from farclocks.records import events, is_record, reading_of
from samples import (
    CLOCKS, FULL, FULL_CLOCK, LEAST, LETTERS, NO_RECORDS, ODD, RECORD, as_list, leaves_unchanged, nested, repr_of,
    with_clock, with_letters,
)

ALL_EVENTS = [(0, 0), (0, 1), (0, 2), (1, 0), (2, 0), (2, 1), (2, 2), (2, 3)]


class Checks(unittest.TestCase):
    def yes(self, *things):
        for thing in things:
            self.assertIs(is_record(thing), True, repr_of(thing))

    def no(self, *things):
        for thing in things:
            self.assertIs(is_record(thing), False, repr_of(thing))


class Clocks(Checks):
    def test_ordinary(self):
        self.yes(RECORD, (CLOCKS, ()), LEAST, FULL)

    def test_slow_and_fast_from_1_to_9(self):
        for slow in range(-1, 12):
            for fast in range(-1, 12):
                good = 1 <= slow <= fast <= 9
                self.assertIs(is_record(with_clock((slow, fast, (0,)))), good, (slow, fast))

    def test_slow_and_fast_are_whole_numbers(self):
        for odd in ODD + [(1,), [1], "1"]:
            self.no(with_clock((odd, 9, (0,))), with_clock((1, odd, (0,))))
        self.no(with_clock((True, True, (0,))), with_clock((True, 1, (0,))), with_clock((1, True, (0,))))

    def test_readings_from_0_to_99(self):
        self.yes(with_clock((1, 2, (0,))), with_clock((1, 2, (99,))), with_clock((1, 2, (0, 99))))
        self.no(with_clock((1, 2, (-1,))), with_clock((1, 2, (100,))))
        self.no(with_clock((1, 2, (-1, 0))), with_clock((1, 2, (99, 100))), with_clock((1, 2, (5, 10 ** 5000))))

    def test_readings_rise(self):
        self.yes(with_clock((1, 2, (0, 1))), with_clock((1, 2, (0, 1, 2, 3))), with_clock((1, 2, (7, 30, 31, 80))))
        self.no(with_clock((1, 2, (1, 1))), with_clock((1, 2, (1, 0))))
        self.no(with_clock((1, 2, (0, 5, 5, 6))), with_clock((1, 2, (0, 5, 4, 6))), with_clock((1, 2, (0, 5, 6, 6))))
        self.no(with_clock((1, 2, (4, 3, 5))), with_clock((1, 2, (3, 2, 1, 0))))

    def test_1_to_4_readings(self):
        for many in range(7):
            self.assertIs(is_record(with_clock((1, 2, tuple(range(many))))), 1 <= many <= 4, many)

    def test_readings_are_a_tuple_of_whole_numbers(self):
        self.no(with_clock((1, 2, [0])), with_clock((1, 2, 0)), with_clock((1, 2, "0")), with_clock((1, 2, None)))
        self.no(with_clock((1, 2, (False,))), with_clock((1, 2, (0, True))), with_clock((1, 2, (False, 1))))
        for odd in ODD:
            self.no(with_clock((1, 2, odd)), with_clock((1, 2, (odd,))), with_clock((1, 2, (0, odd))))

    def test_a_clock_is_a_tuple_of_three(self):
        self.no(with_clock((1, 2)), with_clock((1, 2, (0,), ())), with_clock((1, 2, (0,), 3)), with_clock(()))
        self.no(with_clock([1, 2, (0,)]), with_clock((1, (0,))))

    def test_1_to_4_clocks(self):
        for many in range(7):
            self.assertIs(is_record((CLOCKS[:1] * many, ())), 1 <= many <= 4, many)

    def test_clocks_are_a_tuple_of_clocks(self):
        self.no((list(CLOCKS), ()), (CLOCKS[0], ()), (None, ()), ("", ()))
        self.no(((CLOCKS[0], None), ()), ((CLOCKS[0], CLOCKS[1], (3, 2, (0,))), ()), ((CLOCKS[0], ()), ()))


class Letters(Checks):
    def test_8_letters_at_most(self):
        for many in range(11):
            self.assertIs(is_record((CLOCKS, LETTERS[:1] * many)), many <= 8, many)

    def test_least_and_most_from_0_to_999(self):
        for least in [-1, 0, 1, 500, 998, 999, 1000]:
            for most in [-1, 0, 1, 500, 998, 999, 1000]:
                letter = ((0, 0), (1, 0), least, most)
                self.assertIs(is_record(with_letters(letter)), 0 <= least <= most <= 999, letter)

    def test_most_may_be_none(self):
        for least in [-1, 0, 999, 1000]:
            letter = ((0, 0), (1, 0), least, None)
            self.assertIs(is_record(with_letters(letter)), 0 <= least <= 999, letter)

    def test_least_may_not_be_none(self):
        self.no(with_letters(((0, 0), (1, 0), None, 5)), with_letters(((0, 0), (1, 0), None, None)))

    def test_least_and_most_are_whole_numbers(self):
        for odd in ODD + [(1,), [1], "1"]:
            self.no(with_letters(((0, 0), (1, 0), odd, 999)))
            if odd is not None:
                self.no(with_letters(((0, 0), (1, 0), 0, odd)))
        self.no(with_letters(((0, 0), (1, 0), False, None)), with_letters(((0, 0), (1, 0), True, True)))

    def test_any_two_unlike_events_of_the_record(self):
        for one in ALL_EVENTS:
            for other in ALL_EVENTS:
                letter = (one, other, 1, 2)
                self.assertIs(is_record(with_letters(letter)), one != other, letter)

    def test_events_are_the_records_own(self):
        for event in [(0, 3), (1, 1), (2, 4), (3, 0), (4, 0), (-1, 0), (0, -1), (-3, -1), (1, 10 ** 5000)]:
            self.no(with_letters((event, (0, 0), 1, 2)), with_letters(((0, 0), event, 1, 2)))
        self.yes(with_letters(((0, 2), (2, 3), 1, 2)))

    def test_events_are_tuples_of_two_whole_numbers(self):
        for event in ODD + [[1, 0], (1,), (1, 0, 0), (True, 0), (1, False), ("1", 0), (1, None), ((1,), 0), 1, "10"]:
            self.no(with_letters((event, (0, 1), 1, 2)), with_letters(((0, 1), event, 1, 2)))

    def test_a_letter_is_a_tuple_of_four(self):
        letter = LETTERS[0]
        self.no(with_letters(letter[:3]), with_letters(letter + (1,)), with_letters(list(letter)), with_letters(()))

    def test_every_letter_counts(self):
        for odd in ODD:
            self.no((CLOCKS, LETTERS + (odd,)), (CLOCKS, (odd,) + LETTERS))
        self.no((CLOCKS, LETTERS[:1] * 7 + (((0, 0), (0, 0), 0, 0),)))

    def test_letters_are_a_tuple(self):
        self.no((CLOCKS, []), (CLOCKS, None), (CLOCKS, ""), (CLOCKS, LETTERS[0]), (CLOCKS, list(LETTERS)))


def places(thing, way=()):
    """The ways to all parts of a thing, itself first."""
    told = [way]
    if isinstance(thing, tuple):
        for k, part in enumerate(thing):
            told.extend(places(part, way + (k,)))
    return told


def put(thing, way, part):
    if not way:
        return part
    return thing[:way[0]] + (put(thing[way[0]], way[1:], part),) + thing[way[0] + 1:]


def part_at(thing, way):
    for k in way:
        thing = thing[k]
    return thing


class AnyThing(Checks):
    def test_things_that_are_none(self):
        self.no(*NO_RECORDS)
        for depth in range(1, 13):
            self.no(nested(depth, tuple), nested(depth, list), (nested(depth, tuple), nested(depth, tuple)))

    def test_a_record_is_a_tuple_of_two(self):
        self.no(RECORD + ((),), (CLOCKS,), list(RECORD), as_list(RECORD), (LETTERS, CLOCKS), (RECORD, ()), (RECORD,))

    def test_an_odd_part_in_any_place(self):
        fine = [((1,), ()), ((1, 0, 3), None), ((1, 1, 3), None), ((1, 2, 3), None)]
        for way in places(RECORD):
            for odd in ODD:
                good = (way, odd) in fine
                self.assertIs(is_record(put(RECORD, way, odd)), good, (way, repr_of(odd)))

    def test_a_list_in_the_place_of_any_tuple(self):
        for way in places(RECORD):
            part = part_at(RECORD, way)
            if isinstance(part, tuple):
                self.no(put(RECORD, way, list(part)))

    def test_a_truth_in_the_place_of_any_0_or_1(self):
        ways = [way for way in places(RECORD) if part_at(RECORD, way) in (0, 1)]
        self.assertGreater(len(ways), 10)
        for way in ways:
            self.no(put(RECORD, way, bool(part_at(RECORD, way))))

    def test_the_thing_is_not_changed(self):
        for thing in NO_RECORDS + [RECORD, FULL]:
            leaves_unchanged(self, [thing], is_record)


class Events(unittest.TestCase):
    def test_clock_by_clock_as_they_rise(self):
        self.assertEqual(events(RECORD), ALL_EVENTS)
        self.assertEqual(events(LEAST), [(0, 0)])
        self.assertEqual(events(FULL), [(clock, reading) for clock in range(4) for reading in range(4)])

    def test_kinds(self):
        expected = repr_of(ALL_EVENTS)
        self.assertEqual(repr_of(events(RECORD)), expected)

    def test_a_new_list_each_time(self):
        told = events(RECORD)
        told.clear()
        events(RECORD).append(None)
        self.assertEqual(events(RECORD), ALL_EVENTS)

    def test_no_record(self):
        for thing in NO_RECORDS:
            with self.assertRaises(NoRecord):
                events(thing)


class ReadingOf(unittest.TestCase):
    def test_all_readings(self):
        told = [reading_of(RECORD, event) for event in ALL_EVENTS]
        self.assertEqual(told, [5, 9, 40, 0, 0, 1, 98, 99])
        self.assertEqual([reading_of(FULL, (3, k)) for k in range(4)], list(FULL_CLOCK[2]))
        self.assertEqual(reading_of(LEAST, (0, 0)), 0)

    def test_no_event(self):
        beyond = [(0, 3), (1, 1), (2, 4), (3, 0), (-1, 0), (0, -1), (10 ** 5000, 0), (0, 10 ** 5000)]
        none = [[0, 0], (0,), (0, 0, 0), (False, 0), (0, False), (True, 0), (0, True), ("0", 0), (0, None), ((0,), 0)]
        for thing in ODD + beyond + none:
            with self.assertRaises(NoEvent, msg=repr_of(thing)):
                reading_of(RECORD, thing)

    def test_no_record_comes_first(self):
        for thing in NO_RECORDS:
            for event in [(0, 0), (9, 9), None, thing]:
                with self.assertRaises(NoRecord):
                    reading_of(thing, event)

    def test_nothing_is_changed(self):
        def call(record, event):
            try:
                reading_of(record, event)
            except (NoRecord, NoEvent):
                pass
        for thing in [as_list(RECORD), RECORD]:
            for event in [(0, 0), [0, 0], [[(0, [])]]]:
                leaves_unchanged(self, [thing, event], call)


if __name__ == "__main__":
    unittest.main()
