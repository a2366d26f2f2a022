import itertools
import unittest

from farclocks.bounds import bounds, broken, is_world
from farclocks.errors import NoRecord, NoWorld
from farclocks.records import events
from farclocks.worlds import barring, bars, has_world, moved_by, world
from samples import (
    A, AT_ONCE, B, C, CLOCKS, DEEPEST, EIGHT, EIGHT_WITHOUT_WORLD, FULL, LEAST, NO_RECORDS, NO_WORLD, ODD, PAIR, RECORD,
    RECORDS, SMALL, TABLES, WITH_WORLD, WITHOUT_WORLD, by_letters, comes_to, leaves_unchanged, refuses, repr_of,
    tried_worlds, with_clock,
)


def leads_round(limits, numbers):
    """Whether the bounds of these numbers lead round, by the words of the document."""
    ends = [limits[number][1] for number in numbers]
    return bool(numbers) and [limits[number][0] for number in numbers] == ends[-1:] + ends[:-1]


class Samples(unittest.TestCase):
    def test_the_records_are_of_every_kind(self):
        for records in [WITH_WORLD, WITHOUT_WORLD]:
            self.assertGreater(len(records), 30)
            mosts = [[letter[3] is None for letter in record[1]] for record in records]
            self.assertTrue([one for one in mosts if one and all(one)])
            self.assertTrue([one for one in mosts if one and not any(one)])
            self.assertTrue([one for one in mosts if any(one) and not all(one)])
            self.assertEqual(sorted({len(record[0]) for record in records}), [1, 2, 3, 4])
            self.assertIn(8, [len(record[1]) for record in records])
        self.assertIn(0, [len(record[1]) for record in WITH_WORLD])


class World(unittest.TestCase):
    def test_ordinary(self):
        self.assertEqual(world(PAIR), (-20, 0, -15, -12))
        self.assertEqual(world(EIGHT), (-9, -3, -1, 0))
        self.assertEqual(world(AT_ONCE), (0, 0, 0, 0))

    def test_one_clock(self):
        self.assertEqual(world(LEAST), (0,))
        self.assertEqual(world(with_clock((2, 3, (5, 9, 40)))), (-70, -62, 0))
        self.assertEqual(world((((2, 3, (5, 9, 40)),), (((0, 0), (0, 2), 75, 80),))), (-75, -63, 0))

    def test_without_letters(self):
        self.assertEqual(world((CLOCKS, ())), (-70, -62, 0, 0, -99, -98, -1, 0))

    def test_a_full_record(self):
        own = (-27, -18, -9, 0)
        self.assertEqual(world(FULL), (-999, -990, -981, -972) + own * 3)

    def test_none_without_a_world(self):
        for record in [NO_WORLD, RECORD, EIGHT_WITHOUT_WORLD]:
            self.assertIsNone(world(record))
        self.assertIsNone(world((((2, 3, (5, 9, 40)),), (((0, 2), (0, 0), 0, None),))))

    def test_just_at_the_edge_of_having_one(self):
        clock = (2, 3, (5, 9, 40))
        for least, most, good in [(105, 105, True), (106, 106, False), (70, 70, True), (0, 69, False), (0, 70, True)]:
            record = ((clock,), (((0, 0), (0, 2), least, most),))
            self.assertIs(has_world(record), good, (least, most))
            self.assertIs(world(record) is not None, good, (least, most))

    def test_a_world_with_none_above_0(self):
        for record in WITH_WORLD:
            told = world(record)
            self.assertIs(is_world(record, told), True, record)
            self.assertEqual(broken(record, told), [], record)
            self.assertEqual(max(told), 0, record)

    def test_the_greatest_as_the_mosts_tell(self):
        for record in WITH_WORLD:
            most, places = TABLES[record], events(record)
            greatest = [min(most[one, other] or 0 for one in places) for other in places]
            self.assertEqual(world(record), tuple(greatest), record)

    def test_the_greatest_of_all_that_are_tried(self):
        for record in SMALL:
            tried = tried_worlds(record, DEEPEST)
            greatest = tuple(max(times) for times in zip(*tried)) if tried else None
            self.assertEqual(world(record), greatest, record)

    def test_kinds(self):
        self.assertEqual(repr_of(world(PAIR)), repr_of((-20, 0, -15, -12)))
        for record in RECORDS:
            self.assertIn(type(world(record)), [tuple, type(None)])

    def test_no_record(self):
        for thing in NO_RECORDS:
            refuses(self, NoRecord, world, thing)


class HasWorld(unittest.TestCase):
    def test_with_and_without(self):
        for record in WITH_WORLD:
            self.assertIs(has_world(record), True, record)
        for record in WITHOUT_WORLD:
            self.assertIs(has_world(record), False, record)

    def test_a_letter_more_brings_no_world(self):
        for record in WITHOUT_WORLD:
            if len(record[1]) < 8:
                self.assertIs(has_world((record[0], record[1] + record[1][:1])), False, record)
        for record in WITH_WORLD:
            for many in range(len(record[1])):
                self.assertIs(has_world((record[0], record[1][:many])), True, record)

    def test_no_record(self):
        for thing in NO_RECORDS:
            refuses(self, NoRecord, has_world, thing)
            leaves_unchanged(self, [thing], lambda thing: refuses(self, NoRecord, has_world, thing))


class MovedBy(unittest.TestCase):
    def test_all_times_are_greater(self):
        self.assertEqual(moved_by(PAIR, (0, 20, 2, 5), 7), (7, 27, 9, 12))
        self.assertEqual(moved_by(PAIR, (0, 20, 2, 5), -7), (-7, 13, -5, -2))
        self.assertEqual(moved_by(PAIR, (0, 20, 2, 5), 0), (0, 20, 2, 5))
        self.assertEqual(moved_by(LEAST, (-3,), 10 ** 30), (10 ** 30 - 3,))

    def test_it_is_a_world(self):
        for record in WITH_WORLD:
            for many in [-12, 0, 1, 10 ** 30]:
                self.assertIs(is_world(record, moved_by(record, world(record), many)), True, record)

    def test_kinds(self):
        self.assertEqual(repr_of(moved_by(PAIR, (0, 20, 2, 5), 1)), repr_of((1, 21, 3, 6)))

    def test_times_that_are_no_world(self):
        for times in [(0, 31, 2, 5), (0, 19, 2, 5), (0, 25, 1, 5), (0, 0, 0, 0)]:
            refuses(self, NoWorld, moved_by, PAIR, times, 1)
        for record in WITHOUT_WORLD:
            refuses(self, NoWorld, moved_by, record, (0,) * len(events(record)), 1)

    def test_what_are_no_times(self):
        for thing in ODD + [[0, 20, 2, 5], (0, 20, 2), (0, 20, 2, 5, 0), (False, 20, 2, 5)]:
            refuses(self, NoWorld, moved_by, PAIR, thing, 1)

    def test_no_record_comes_first(self):
        for thing in NO_RECORDS:
            for times in [(0,), (0, 0, 0, 0), None]:
                refuses(self, NoRecord, moved_by, thing, times, 1)


class Barring(unittest.TestCase):
    def test_ordinary(self):
        self.assertIn(barring(NO_WORLD), [[0, 2], [2, 0]])
        self.assertEqual(sorted(barring(RECORD)), [1, 10, 12, 13])

    def test_none_where_there_is_a_world(self):
        for record in WITH_WORLD:
            self.assertIsNone(barring(record), record)

    def test_a_round_below_0_where_there_is_none(self):
        for record in WITHOUT_WORLD:
            told, limits = barring(record), bounds(record)
            self.assertIs(type(told), list)
            self.assertEqual({type(number) for number in told}, {int}, record)
            self.assertTrue(leads_round(limits, told), record)
            self.assertLess(comes_to(limits, told), 0, record)
            self.assertIs(bars(record, told), True, record)

    def test_a_new_list_each_time(self):
        for record in WITHOUT_WORLD:
            told = barring(record)
            before = list(told)
            told.clear()
            barring(record).append(None)
            self.assertEqual(barring(record), before)

    def test_no_record(self):
        for thing in NO_RECORDS:
            refuses(self, NoRecord, barring, thing)


class Bars(unittest.TestCase):
    def test_ordinary(self):
        self.assertEqual(bounds(NO_WORLD), [(B, A, -5), (A, B, 8), (A, B, 0)])
        for numbers in [[0, 2], [2, 0], [0, 2, 0, 2], [0, 1, 0, 2, 0, 2]]:
            self.assertIs(bars(NO_WORLD, numbers), True, numbers)
        for numbers in [[], [0], [1], [2], [0, 1], [1, 0], [0, 0], [1, 2], [0, 2, 0], [2, 0, 2], [0, 2, 1], [0, 2, 2, 0]]:
            self.assertIs(bars(NO_WORLD, numbers), False, numbers)

    def test_what_comes_to_just_0_bars_nothing(self):
        record = by_letters((A, B, 5, 5), (B, C, 0, None), (C, A, 0, None))
        self.assertEqual(bounds(record), [(B, A, -5), (A, B, 5), (C, B, 0), (A, C, 0)])
        self.assertIs(bars(record, [0, 1]), False)
        self.assertIs(bars(record, [0, 3, 2]), True)
        self.assertIs(bars(record, [0, 2, 3]), False)
        self.assertIs(bars(AT_ONCE, [0, 1]), False)

    def test_each_short_list_by_the_words_of_the_document(self):
        for record in [NO_WORLD, PAIR, AT_ONCE, LEAST, by_letters((A, B, 3, 3), (B, C, 2, None), (C, A, 0, 4))]:
            limits = bounds(record)
            for many in range(5):
                for numbers in itertools.product(range(len(limits)), repeat=many):
                    good = leads_round(limits, numbers) and comes_to(limits, numbers) < 0
                    self.assertIs(bars(record, list(numbers)), good, numbers)

    def test_there_is_a_list_that_bars_just_where_there_is_no_world(self):
        for record in SMALL:
            limits = bounds(record)
            if len(limits) > 8:
                continue
            tried = itertools.chain(*[itertools.product(range(len(limits)), repeat=many) for many in range(1, 5)])
            found = any(bars(record, list(numbers)) for numbers in tried if leads_round(limits, numbers))
            self.assertIs(found, TABLES[record] is None, record)

    def test_it_may_begin_anywhere_and_go_round_again(self):
        for record in WITHOUT_WORLD:
            told = barring(record)
            for k in range(len(told)):
                self.assertIs(bars(record, told[k:] + told[:k]), True, record)
                self.assertIs(bars(record, told[:k] + told[k + 1:]), False, record)
            self.assertIs(bars(record, told * 3), True, record)

    def test_each_letter_and_clock_by_itself_leads_round(self):
        for record in WITH_WORLD:
            for number in range(len(bounds(record)) - 1):
                self.assertIs(bars(record, [number, number + 1]), False, record)

    def test_numbers_that_no_bound_has(self):
        for odd in [3, 4, -1, -3, 10 ** 5000, -10 ** 5000, None, "0", "", [0], (0,), [], True, False]:
            for numbers in [[odd], [odd, 2], [0, odd], [0, 2, odd], [odd, 0, 2], [0, 2, odd, 2]]:
                self.assertIs(bars(NO_WORLD, numbers), False, repr_of(numbers))

    def test_truths_are_no_numbers(self):
        record = by_letters((A, B, 5, None), (B, A, 0, None))
        self.assertIs(bars(record, [0, 1]), True)
        for numbers in [[False, 1], [0, True], [False, True], [True, False], [True, 0], [1, False]]:
            self.assertIs(bars(record, numbers), False, numbers)

    def test_counted_from_behind_is_no_number(self):
        self.assertIs(bars(NO_WORLD, [-3, -1]), False)
        self.assertIs(bars(NO_WORLD, [0, -1]), False)

    def test_what_is_no_list(self):
        for thing in ODD + [(0, 2), (2, 0), "02", 0, 2, {0: 2}, [(0, 2)], [[0, 2]], ([0, 2],), [0, [2]], [None, 0, 2]]:
            self.assertIs(bars(NO_WORLD, thing), False, repr_of(thing) if not isinstance(thing, dict) else thing)

    def test_no_record_comes_first(self):
        for thing in NO_RECORDS:
            for numbers in [[], [0], None, thing]:
                refuses(self, NoRecord, bars, thing, numbers)

    def test_the_thing_is_not_changed(self):
        for thing in ODD + [[0, 2], [2, 0, 2], [0, [2]], [[(0, [])]]]:
            leaves_unchanged(self, [NO_WORLD, thing], bars)


if __name__ == "__main__":
    unittest.main()
