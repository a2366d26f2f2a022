import unittest

from farclocks.between import least_between, most_between
from farclocks.errors import NoNumber, NoRecord, NoWorld
from farclocks.needs import same_worlds
from farclocks.records import events, is_record
from farclocks.spans import is_narrow, narrowed, spans
from samples import (
    A, AT_ONCE, B, C, CLOCKS, D, DEEPEST, EIGHT, FULL, LEAST, NO_RECORDS, NO_WORLD, ODD, PAIR, SMALL, TABLES,
    WITH_WORLD, WITHOUT_WORLD, by_letters, leaves_unchanged, refuses, repr_of, tried_worlds, with_clock,
)

CLOCK = (2, 3, (5, 9, 40))


class Spans(unittest.TestCase):
    def test_without_letters(self):
        self.assertEqual(repr_of(spans(with_clock(CLOCK), 0)), repr_of([(8, 12), (62, 93)]))
        self.assertEqual(spans(with_clock((1, 9, (0, 1, 98, 99))), 0), [(1, 9), (97, 873), (1, 9)])
        self.assertEqual(spans(with_clock((4, 4, (3, 8))), 0), [(20, 20)])
        self.assertEqual([spans((CLOCKS, ()), k) for k in range(3)], [
            [(8, 12), (62, 93)], [], [(1, 9), (97, 873), (1, 9)],
        ])

    def test_one_reading(self):
        for record in [LEAST, by_letters(), EIGHT]:
            for number in range(len(record[0])):
                self.assertEqual(repr_of(spans(record, number)), repr_of([]))

    def test_four_readings(self):
        for number in range(4):
            self.assertEqual(spans(FULL, number), [(9, 9)] * 3)

    def test_letters_on_the_clock_itself(self):
        for letters, expected in [
            ((((0, 0), (0, 1), 9, 10),), [(9, 10), (62, 93)]),
            ((((0, 0), (0, 1), 0, None),), [(8, 12), (62, 93)]),
            ((((0, 0), (0, 1), 10, None),), [(10, 12), (62, 93)]),
            ((((0, 0), (0, 2), 75, 80),), [(8, 12), (63, 72)]),
            ((((0, 0), (0, 2), 0, 71),), [(8, 9), (62, 63)]),
            ((((0, 0), (0, 2), 104, None),), [(11, 12), (92, 93)]),
            ((((0, 0), (0, 1), 9, 10), ((0, 0), (0, 2), 75, 80)), [(9, 10), (65, 71)]),
        ]:
            self.assertEqual(spans(((CLOCK,), letters), 0), expected, letters)

    def test_letters_to_another_clock_and_back(self):
        clocks = (CLOCK, (1, 1, (0, 5)))
        letters = (((0, 0), (1, 0), 2, None), ((1, 1), (0, 1), 2, None))
        self.assertEqual(spans((clocks, letters), 0), [(9, 12), (62, 93)])
        self.assertEqual(spans((clocks, letters), 1), [(5, 5)])
        clocks = (CLOCK, (1, 9, (0, 5)))
        self.assertEqual(spans((clocks, letters), 0), [(9, 12), (62, 93)])
        self.assertEqual(spans((clocks, letters), 1), [(5, 8)])

    def test_each_clock_of_each_record(self):
        for record in WITH_WORLD:
            for number, clock in enumerate(record[0]):
                expected = []
                for k in range(1, len(clock[2])):
                    most = TABLES[record]
                    expected.append((-most[(number, k), (number, k - 1)], most[(number, k - 1), (number, k)]))
                self.assertEqual(repr_of(spans(record, number)), repr_of(expected), (record, number))

    def test_a_new_list_each_time(self):
        for record in [with_clock(CLOCK), LEAST]:
            before = list(spans(record, 0))
            spans(record, 0).clear()
            spans(record, 0).append(None)
            self.assertEqual(spans(record, 0), before)

    def test_no_number(self):
        for record in [LEAST, PAIR, FULL, EIGHT, with_clock(CLOCK)]:
            for number in ODD + [len(record[0]), len(record[0]) + 1, -len(record[0]), (0,), "0", [0]]:
                refuses(self, NoNumber, spans, record, number)

    def test_no_world_comes_behind_no_number(self):
        for record in WITHOUT_WORLD:
            for number in range(len(record[0])):
                refuses(self, NoWorld, spans, record, number)
            for number in ODD + [len(record[0])]:
                refuses(self, NoNumber, spans, record, number)

    def test_no_record_comes_first(self):
        for thing in NO_RECORDS:
            for number in [0, 99, None, True]:
                refuses(self, NoRecord, spans, thing, number)

    def test_nothing_is_changed(self):
        for number in [[0], [[None]]]:
            leaves_unchanged(self, [PAIR, number], lambda *things: refuses(self, NoNumber, spans, *things))


class Narrowed(unittest.TestCase):
    def told(self, *letters):
        clocks, told = narrowed(by_letters(*letters))
        self.assertEqual(clocks, by_letters()[0])
        self.assertEqual([letter[:2] for letter in told], [letter[:2] for letter in letters])
        return [letter[2:] for letter in told]

    def test_by_other_letters(self):
        chain = ((A, B, 5, 8), (B, C, 2, 3))
        for least, most, expected in [
            (0, 999, [(5, 8), (2, 3), (7, 11)]),
            (0, None, [(5, 8), (2, 3), (7, 11)]),
            (7, 11, [(5, 8), (2, 3), (7, 11)]),
            (8, 10, [(5, 8), (2, 3), (8, 10)]),
            (11, 11, [(8, 8), (3, 3), (11, 11)]),
            (0, 7, [(5, 5), (2, 2), (7, 7)]),
            (10, None, [(7, 8), (2, 3), (10, 11)]),
        ]:
            self.assertEqual(self.told(*chain, (A, C, least, most)), expected, (least, most))

    def test_by_clocks(self):
        record = ((CLOCK,), (((0, 0), (0, 2), 0, None), ((0, 0), (0, 1), 9, 99)))
        self.assertEqual(narrowed(record), ((CLOCK,), (((0, 0), (0, 2), 71, 105), ((0, 0), (0, 1), 9, 12))))

    def test_letters_alike(self):
        self.assertEqual(self.told((A, B, 3, 9), (A, B, 1, 5), (A, B, 0, None)), [(3, 5)] * 3)

    def test_least_more_than_999(self):
        for first, second, expected in [(500, 498, 998), (500, 499, 999), (500, 500, 999), (999, 999, 999)]:
            letters = ((A, B, first, None), (B, C, second, None), (A, C, 0, None))
            self.assertEqual(self.told(*letters), [(first, None), (second, None), (expected, None)])
        letters = ((A, B, 999, 999), (B, C, 999, 999), (A, C, 999, None))
        self.assertEqual(least_between(by_letters(*letters), A, C), 1998)
        self.assertEqual(self.told(*letters), [(999, 999), (999, 999), (999, None)])

    def test_most_more_than_999_or_none(self):
        for first, second, expected in [(500, 498, 998), (500, 499, 999), (500, 500, None), (999, 999, None)]:
            letters = ((A, B, 0, first), (B, C, 0, second), (A, C, 0, None))
            self.assertEqual(self.told(*letters), [(0, first), (0, second), (0, expected)])
        self.assertEqual(self.told((A, B, 0, None)), [(0, None)])
        self.assertEqual(self.told((A, B, 999, None), (A, B, 0, 999)), [(999, 999), (999, 999)])

    def test_events_at_once(self):
        self.assertEqual(narrowed(AT_ONCE), by_letters((A, B, 0, 0), (B, A, 0, 0)))
        self.assertEqual(self.told((A, B, 0, 9), (B, A, 0, 7)), [(0, 0), (0, 0)])

    def test_never_less_than_0(self):
        for record in WITH_WORLD:
            for one, other, least, most in record[1]:
                self.assertGreaterEqual(least_between(record, one, other), least)
                self.assertNotIn(most_between(record, one, other), range(-10000, 0))

    def test_without_letters(self):
        for record in [LEAST, by_letters(), (CLOCKS, ())]:
            self.assertEqual(repr_of(narrowed(record)), repr_of(record))

    def test_eight(self):
        self.assertEqual(narrowed(EIGHT), by_letters(
            (A, B, 6, 8), (B, C, 2, 3), (A, C, 8, 11), (A, C, 8, 11), (C, D, 1, 7), (A, D, 9, 17), (A, B, 6, 8),
            (B, D, 3, 9),
        ))

    def test_each_letter_of_each_record(self):
        for record in WITH_WORLD:
            letters = []
            for one, other, _, _ in record[1]:
                least, most = -TABLES[record][other, one], TABLES[record][one, other]
                letters.append((one, other, min(least, 999), most if most is not None and most <= 999 else None))
            self.assertEqual(repr_of(narrowed(record)), repr_of((record[0], tuple(letters))), record)

    def test_a_record_with_the_same_worlds_that_is_narrow(self):
        long = by_letters((A, B, 999, None), (B, C, 999, 999), (A, C, 5, None), (C, D, 0, 999), (A, D, 0, None))
        for record in WITH_WORLD + [long]:
            told = narrowed(record)
            self.assertIs(is_record(told), True)
            self.assertIs(same_worlds(told, record), True, record)
            self.assertIs(is_narrow(told), True, record)
            self.assertEqual(narrowed(told), told, record)

    def test_the_same_worlds_tried_one_by_one(self):
        for record in SMALL[::4]:
            if TABLES[record] is not None:
                self.assertEqual(tried_worlds(narrowed(record), DEEPEST), tried_worlds(record, DEEPEST))

    def test_refusals(self):
        for call in [narrowed, is_narrow]:
            for thing in NO_RECORDS:
                refuses(self, NoRecord, call, thing)
            for record in WITHOUT_WORLD:
                refuses(self, NoWorld, call, record)

    def test_nothing_is_changed(self):
        for thing in [[LEAST], [[None]]]:
            for call in [narrowed, is_narrow]:
                leaves_unchanged(self, [thing], lambda record: refuses(self, NoRecord, call, record))


class IsNarrow(unittest.TestCase):
    def test_narrow(self):
        for record in [LEAST, by_letters(), (CLOCKS, ()), PAIR, FULL, by_letters((A, B, 5, 8)),
                       by_letters((A, B, 5, None)),
                       by_letters((A, B, 5, 8), (B, C, 2, 3), (A, C, 7, 11)),
                       by_letters((A, B, 999, None), (B, C, 999, None), (A, C, 999, None))]:
            self.assertIs(is_narrow(record), True, record)

    def test_not_narrow(self):
        for record in [AT_ONCE, EIGHT, by_letters((A, B, 5, 8), (B, C, 2, 3), (A, C, 6, 11)),
                       by_letters((A, B, 5, 8), (B, C, 2, 3), (A, C, 7, 12)),
                       by_letters((A, B, 5, 8), (B, C, 2, 3), (A, C, 7, None)),
                       by_letters((A, B, 5, 8), (B, C, 2, 3), (A, C, 8, 11), (A, C, 7, 11)),
                       ((CLOCK,), (((0, 0), (0, 1), 8, None),)), ((CLOCK,), (((0, 0), (0, 1), 7, 12),))]:
            self.assertIs(is_narrow(record), False, record)

    def test_each_record(self):
        for record in WITH_WORLD:
            narrow = True
            for one, other, least, most in record[1]:
                told = TABLES[record][one, other]
                narrow = narrow and least == min(999, -TABLES[record][other, one])
                narrow = narrow and most == (told if told is not None and told <= 999 else None)
            self.assertIs(is_narrow(record), narrow, record)

    def test_events_stay(self):
        for record in WITH_WORLD:
            self.assertEqual(events(narrowed(record)), events(record))

    def test_letters_to_the_last_clock(self):
        self.assertIs(is_narrow(by_letters((A, D, 1, 2))), True)
        self.assertIs(is_narrow(by_letters((A, D, 1, 2), (A, D, 1, 1))), False)
        refuses(self, NoWorld, is_narrow, NO_WORLD)


if __name__ == "__main__":
    unittest.main()
