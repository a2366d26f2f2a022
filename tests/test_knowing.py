import itertools
import unittest

from farclocks.errors import NoEvent, NoNumber, NoRecord
from farclocks.knowing import first_to_know, knows, stamp, unknown_pairs
from farclocks.records import events
from samples import (
    A, B, C, CLOCKS, D, FULL, LEAST, NO_EVENTS, NO_RECORDS, NO_WORLD, ODD, PAIR, RECORD, RECORDS, TABLES, WITH_WORLD,
    by_letters, leaves_unchanged, refuses, repr_of, with_clock,
)

# Three clocks that are read three times, and letters that lead on from clock to clock.
THREE = ((1, 2, (0, 5, 9)),) * 3
CHAIN = (THREE, (((0, 1), (1, 1), 0, None), ((1, 2), (2, 1), 3, 8)))
# The second letter goes off ahead of where the first one comes, so that nothing is led on.
CROSSED = (THREE, (((0, 1), (1, 1), 0, None), ((1, 0), (2, 1), 3, 8)))
# Letters round through all clocks, and a letter from a reading to one ahead of it.
ROUND = (THREE, (((0, 1), (1, 1), 0, 0), ((1, 1), (2, 1), 0, 0), ((2, 1), (0, 1), 0, 0)))
BACK = (with_clock((1, 2, (0, 5, 9)))[0], (((0, 2), (0, 0), 0, None),))
ALL = RECORDS + [CHAIN, CROSSED, ROUND, BACK]


def known_pairs(record):
    """All tuples (one, other) of which the one knows the other, led on through each event."""
    places = events(record)
    known = {(one, other) for one in places for other in places if one[0] == other[0] and other[1] <= one[1]}
    known |= {(other, one) for one, other, least, most in record[1]}
    for over, one, other in itertools.product(places, repeat=3):
        if (one, over) in known and (over, other) in known:
            known.add((one, other))
    return known


KNOWN = {record: known_pairs(record) for record in ALL}


class Knows(unittest.TestCase):
    def test_itself_and_its_clock(self):
        record = with_clock((1, 2, (0, 5, 9, 40)))
        for k in range(4):
            self.assertEqual(knows(record, (0, k)), [(0, j) for j in range(k + 1)])
        self.assertEqual(knows(LEAST, (0, 0)), [(0, 0)])

    def test_nothing_of_other_clocks_without_letters(self):
        for event in events((CLOCKS, ())):
            self.assertEqual(knows((CLOCKS, ()), event), [(event[0], k) for k in range(event[1] + 1)])

    def test_letters_that_lead_on(self):
        self.assertEqual(knows(CHAIN, (1, 0)), [(1, 0)])
        self.assertEqual(knows(CHAIN, (1, 1)), [(0, 0), (0, 1), (1, 0), (1, 1)])
        self.assertEqual(knows(CHAIN, (1, 2)), [(0, 0), (0, 1), (1, 0), (1, 1), (1, 2)])
        self.assertEqual(knows(CHAIN, (2, 0)), [(2, 0)])
        self.assertEqual(knows(CHAIN, (2, 1)), [(0, 0), (0, 1), (1, 0), (1, 1), (1, 2), (2, 0), (2, 1)])
        self.assertEqual(knows(CHAIN, (2, 2)), [(0, 0), (0, 1), (1, 0), (1, 1), (1, 2), (2, 0), (2, 1), (2, 2)])
        self.assertEqual(knows(CHAIN, (0, 2)), [(0, 0), (0, 1), (0, 2)])

    def test_a_letter_that_went_off_too_early(self):
        self.assertEqual(knows(CROSSED, (2, 1)), [(1, 0), (2, 0), (2, 1)])

    def test_the_letters_order_does_not_matter(self):
        clocks, letters = CHAIN
        for event in events(CHAIN):
            self.assertEqual(knows((clocks, letters[::-1]), event), knows(CHAIN, event))

    def test_rounds(self):
        everything = [(0, 0), (0, 1), (1, 0), (1, 1), (2, 0), (2, 1)]
        for event in [(0, 1), (1, 1), (2, 1)]:
            self.assertEqual(knows(ROUND, event), everything)
        self.assertEqual(knows(ROUND, (1, 2)), sorted(everything + [(1, 2)]))
        self.assertEqual(knows(ROUND, (1, 0)), [(1, 0)])

    def test_letters_back_on_a_clock(self):
        for event in events(BACK):
            self.assertEqual(knows(BACK, event), [(0, 0), (0, 1), (0, 2)])

    def test_letters_alike(self):
        self.assertEqual(knows(FULL, (3, 3)), [(0, 0), (3, 0), (3, 1), (3, 2), (3, 3)])

    def test_one_without_a_world(self):
        for event in [A, B]:
            self.assertEqual(knows(NO_WORLD, event), [A, B])

    def test_each_event_of_each_record(self):
        for record in ALL:
            for event in events(record):
                expected = [other for other in events(record) if (event, other) in KNOWN[record]]
                self.assertEqual(repr_of(knows(record, event)), repr_of(expected), (record, event))

    def test_knowing_leads_on(self):
        for record in ALL[::5]:
            for event in events(record):
                for other in knows(record, event):
                    self.assertLessEqual(set(knows(record, other)), set(knows(record, event)))

    def test_what_is_known_is_never_later(self):
        for record in WITH_WORLD:
            for event in events(record):
                for other in knows(record, event):
                    self.assertLessEqual(TABLES[record][event, other], 0, (record, event, other))

    def test_a_new_list_each_time(self):
        for record, event in [(CHAIN, (2, 1)), (LEAST, (0, 0)), (FULL, (3, 3))]:
            before = list(knows(record, event))
            knows(record, event).clear()
            knows(record, event).append(None)
            self.assertEqual(knows(record, event), before)


class Stamp(unittest.TestCase):
    def test_ordinary(self):
        for event, expected in [
            ((0, 0), (1, 0, 0)), ((0, 2), (3, 0, 0)), ((1, 0), (0, 1, 0)), ((1, 1), (2, 2, 0)), ((1, 2), (2, 3, 0)),
            ((2, 0), (0, 0, 1)), ((2, 1), (2, 3, 2)), ((2, 2), (2, 3, 3)),
        ]:
            self.assertEqual(repr_of(stamp(CHAIN, event)), repr_of(expected))

    def test_edges(self):
        self.assertEqual(stamp(LEAST, (0, 0)), (1,))
        self.assertEqual(stamp(FULL, (3, 3)), (1, 0, 0, 4))
        self.assertEqual(stamp(by_letters(), C), (0, 0, 1, 0))
        self.assertEqual(stamp(ROUND, (0, 2)), (3, 2, 2))
        self.assertEqual(stamp(BACK, (0, 0)), (3,))

    def test_each_event_of_each_record(self):
        for record in ALL:
            for event in events(record):
                known = [other[0] for one, other in KNOWN[record] if one == event]
                expected = tuple(known.count(number) for number in range(len(record[0])))
                self.assertEqual(repr_of(stamp(record, event)), repr_of(expected), (record, event))


class FirstToKnow(unittest.TestCase):
    def test_ordinary(self):
        for event, clock, expected in [
            ((0, 0), 0, (0, 0)), ((0, 0), 1, (1, 1)), ((0, 0), 2, (2, 1)), ((0, 1), 0, (0, 1)), ((0, 1), 1, (1, 1)),
            ((0, 1), 2, (2, 1)), ((0, 2), 0, (0, 2)), ((0, 2), 1, None), ((0, 2), 2, None), ((1, 0), 0, None),
            ((1, 2), 1, (1, 2)), ((1, 2), 2, (2, 1)), ((2, 0), 0, None), ((2, 0), 1, None), ((2, 2), 2, (2, 2)),
        ]:
            self.assertEqual(repr_of(first_to_know(CHAIN, event, clock)), repr_of(expected), (event, clock))

    def test_its_own_clock(self):
        for record in WITH_WORLD:
            for event in events(record):
                # A clock's later reading is truly later, so none ahead of it can know it where there is a world.
                self.assertEqual(first_to_know(record, event, event[0]), event)

    def test_ahead_of_itself_on_its_own_clock(self):
        self.assertEqual(first_to_know(BACK, (0, 2), 0), (0, 0))
        self.assertEqual(first_to_know(BACK, (0, 1), 0), (0, 0))

    def test_rounds(self):
        for event, clock in itertools.product([(0, 1), (1, 1), (2, 1)], range(3)):
            self.assertEqual(first_to_know(ROUND, event, clock), (clock, 1))
        self.assertIsNone(first_to_know(ROUND, (0, 2), 1))

    def test_each_event_of_each_record(self):
        for record in ALL:
            for event, clock in itertools.product(events(record), range(len(record[0]))):
                knowing = [one for one, other in KNOWN[record] if other == event and one[0] == clock]
                expected = min(knowing) if knowing else None
                told = first_to_know(record, event, clock)
                self.assertEqual(repr_of(told), repr_of(expected), (record, event, clock))

    def test_no_number(self):
        for record in [LEAST, PAIR, by_letters(), NO_WORLD, CHAIN]:
            for number in ODD + [len(record[0]), len(record[0]) + 1, -len(record[0]), (0,), "0", [0], (0, 0)]:
                refuses(self, NoNumber, first_to_know, record, (0, 0), number)

    def test_no_event_comes_ahead_of_no_number(self):
        for record in [PAIR, by_letters(), NO_WORLD]:
            for event in NO_EVENTS:
                for number in [0, 9, None, True]:
                    refuses(self, NoEvent, first_to_know, record, event, number)

    def test_no_record_comes_first(self):
        for thing in NO_RECORDS:
            for event, number in itertools.product([(0, 0), (9, 9), None], [0, 9, None]):
                refuses(self, NoRecord, first_to_know, thing, event, number)


class UnknownPairs(unittest.TestCase):
    def test_ordinary(self):
        expected = [
            ((0, 0), (1, 0)), ((0, 0), (2, 0)), ((0, 1), (1, 0)), ((0, 1), (2, 0)), ((0, 2), (1, 0)), ((0, 2), (1, 1)),
            ((0, 2), (1, 2)), ((0, 2), (2, 0)), ((0, 2), (2, 1)), ((0, 2), (2, 2)), ((1, 0), (2, 0)), ((1, 1), (2, 0)),
            ((1, 2), (2, 0)),
        ]
        self.assertEqual(repr_of(unknown_pairs(CHAIN)), repr_of(expected))
        self.assertEqual(unknown_pairs(PAIR), [((0, 0), (1, 0)), ((0, 1), (1, 0)), ((0, 1), (1, 1))])

    def test_none(self):
        chain = by_letters((A, B, 0, 0), (B, C, 0, 0), (C, D, 0, 0))
        for record in [LEAST, with_clock((1, 2, (0, 5, 9, 40))), BACK, chain]:
            self.assertEqual(repr_of(unknown_pairs(record)), repr_of([]))

    def test_the_lesser_first_also_where_the_letter_goes_back(self):
        self.assertEqual(unknown_pairs(by_letters((D, A, 0, None), (C, B, 0, None))), [(A, B), (A, C), (B, D), (C, D)])

    def test_all_without_letters(self):
        self.assertEqual(unknown_pairs(by_letters()), list(itertools.combinations([A, B, C, D], 2)))
        every = itertools.combinations(events((CLOCKS, ())), 2)
        expected = [(one, other) for one, other in every if one[0] != other[0]]
        self.assertEqual(unknown_pairs((CLOCKS, ())), expected)

    def test_each_record(self):
        for record in ALL:
            expected = [
                (one, other) for one, other in itertools.combinations(events(record), 2)
                if (one, other) not in KNOWN[record] and (other, one) not in KNOWN[record]
            ]
            self.assertEqual(repr_of(unknown_pairs(record)), repr_of(expected), record)

    def test_a_new_list_each_time(self):
        for record in [CHAIN, LEAST, PAIR]:
            before = list(unknown_pairs(record))
            unknown_pairs(record).clear()
            unknown_pairs(record).append(None)
            self.assertEqual(unknown_pairs(record), before)

    def test_no_record(self):
        for thing in NO_RECORDS:
            refuses(self, NoRecord, unknown_pairs, thing)


class Refusals(unittest.TestCase):
    def test_no_event(self):
        for call in [knows, stamp]:
            for record in [PAIR, by_letters(), NO_WORLD]:
                for event in NO_EVENTS:
                    refuses(self, NoEvent, call, record, event)
            refuses(self, NoEvent, call, RECORD, (1, 1))
            refuses(self, NoEvent, call, RECORD, (3, 0))

    def test_no_record_comes_first(self):
        for call in [knows, stamp]:
            for thing in NO_RECORDS:
                for event in [(0, 0), (9, 9), None, thing]:
                    refuses(self, NoRecord, call, thing, event)

    def test_nothing_is_changed(self):
        for event in [[0, 0], [[None]], []]:
            for call in [knows, stamp]:
                leaves_unchanged(self, [PAIR, event], lambda *things: refuses(self, NoEvent, call, *things))
            leaves_unchanged(self, [PAIR, event, [0]], lambda *things: refuses(self, NoEvent, first_to_know, *things))


if __name__ == "__main__":
    unittest.main()
