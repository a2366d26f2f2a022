import itertools
import unittest

from farclocks.between import all_most, least_between, most_between, shows, way, world_with
from farclocks.bounds import bounds, is_world
from farclocks.errors import NoEvent, NoRecord, NoWorld
from farclocks.records import events
from samples import (
    A, AT_ONCE, B, C, CLOCKS, D, DEEPEST, DRAWN, EIGHT, FULL, LEAST, NAMED, NO_EVENTS, NO_RECORDS, NO_WORLD, ODD, PAIR,
    SMALL, TABLES, WITH_WORLD, WITHOUT_WORLD, by_letters, comes_to, leaves_unchanged, pairs, refuses, repr_of,
    tried_apart, with_clock,
)

FEW = NAMED + DRAWN[::4] + SMALL[::4]


def few(records):
    return [record for record in records if record in FEW]


def leads_from_to(limits, one, other, numbers):
    """Whether the bounds of these numbers lead from the one to the other, by the words of the document."""
    if not numbers:
        return one == other
    begins, ends = [limits[number][0] for number in numbers], [limits[number][1] for number in numbers]
    return begins == [one] + ends[:-1] and ends[-1] == other


class Refusals(unittest.TestCase):
    def refuses_pairs(self, call, *more):
        for thing in NO_RECORDS:
            for one, other in [(A, A), (None, None), ((9, 9), A)]:
                refuses(self, NoRecord, call, thing, one, other, *more)
        for record in [PAIR, EIGHT, NO_WORLD]:
            for thing in NO_EVENTS:
                for one, other in [(thing, A), (A, thing), (thing, thing)]:
                    refuses(self, NoEvent, call, record, one, other, *more)

    def refuses_without_world(self, call, *more):
        for record in WITHOUT_WORLD:
            for one, other in [(A, A), (A, events(record)[-1]), (events(record)[-1], A)]:
                refuses(self, NoWorld, call, record, one, other, *more)

    def changes_nothing(self, call, *more):
        for record, one in [(PAIR, [0, 0]), (PAIR, [[(0, [])]]), ([PAIR], [0]), ([list(PAIR)], None)]:
            leaves_unchanged(self, [record, one], lambda record, one: refuses(
                self, NoRecord if isinstance(record, list) else NoEvent, call, record, one, A, *more))


class MostAndLeast(Refusals):
    def both(self, record, one, other):
        return (least_between(record, one, other), most_between(record, one, other))

    def test_ordinary(self):
        self.assertEqual(self.both(PAIR, (0, 0), (0, 1)), (20, 30))
        self.assertEqual(self.both(PAIR, (0, 0), (1, 1)), (5, 8))
        self.assertEqual(self.both(PAIR, (0, 0), (1, 0)), (2, 5))
        self.assertEqual(self.both(PAIR, (0, 1), (1, 0)), (-28, -15))
        self.assertEqual(self.both(PAIR, (1, 0), (0, 1)), (15, 28))

    def test_below_0_the_other_way(self):
        self.assertEqual(self.both(PAIR, (0, 1), (0, 0)), (-30, -20))
        self.assertEqual(self.both(PAIR, (1, 1), (0, 0)), (-8, -5))

    def test_an_event_and_itself(self):
        for record in few(WITH_WORLD):
            for event in events(record):
                self.assertEqual(repr_of(self.both(record, event, event)), repr_of((0, 0)), record)

    def test_none_where_there_is_no_least_or_no_most(self):
        record = by_letters((A, B, 4, None), (B, C, 2, 3))
        self.assertEqual(self.both(record, A, B), (4, None))
        self.assertEqual(self.both(record, B, A), (None, -4))
        self.assertEqual(self.both(record, A, C), (6, None))
        self.assertEqual(self.both(record, C, A), (None, -6))
        self.assertEqual(self.both(record, B, C), (2, 3))
        self.assertEqual(self.both(record, A, D), (None, None))
        self.assertEqual(self.both(record, D, A), (None, None))

    def test_0_is_not_none(self):
        self.assertEqual(self.both(AT_ONCE, A, B), (0, 0))
        self.assertEqual(self.both(by_letters((A, B, 0, None)), A, B), (0, None))
        self.assertEqual(self.both(by_letters((A, B, 0, None)), B, A), (None, 0))

    def test_one_clock(self):
        record = with_clock((2, 3, (5, 9, 40)))
        self.assertEqual(self.both(record, (0, 0), (0, 2)), (70, 105))
        self.assertEqual(self.both(record, (0, 1), (0, 2)), (62, 93))
        self.assertEqual(self.both((CLOCKS, ()), (0, 0), (2, 0)), (None, None))

    def test_letters_narrow_one_another(self):
        self.assertEqual(self.both(EIGHT, A, B), (6, 8))
        self.assertEqual(self.both(EIGHT, A, C), (8, 11))
        self.assertEqual(self.both(EIGHT, C, D), (1, 7))
        self.assertEqual(self.both(EIGHT, A, D), (9, 17))
        self.assertEqual(self.both(FULL, (0, 0), (3, 3)), (999, None))
        self.assertEqual(self.both(FULL, (0, 3), (3, 0)), (945, None))

    def test_as_the_mosts_tell(self):
        for record in few(WITH_WORLD):
            for one, other in pairs(record):
                most, back = TABLES[record][one, other], TABLES[record][other, one]
                self.assertEqual(self.both(record, one, other), (None if back is None else -back, most), record)

    def test_so_in_all_worlds_and_just_so_in_some(self):
        for record in SMALL:
            for (one, other), apart in tried_apart(record).items():
                least, most = self.both(record, one, other)
                self.ends_at(least, min(apart), record)
                self.ends_at(None if most is None else -most, -max(apart), record)

    def ends_at(self, told, least, record):
        # Without an end they go on nearly to where trying ends, if other events leave them the room.
        if told is None:
            self.assertLessEqual(least, DEEPEST + 4, record)
        else:
            self.assertEqual(least, told, record)

    def test_refusals(self):
        for call in [most_between, least_between]:
            self.refuses_pairs(call)
            self.refuses_without_world(call)
            self.changes_nothing(call)


class AllMost(Refusals):
    def test_ordinary(self):
        self.assertEqual(all_most(PAIR), ((0, 30, 5, 8), (-20, 0, -15, -12), (-2, 28, 0, 3), (-5, 25, -3, 0)))
        self.assertEqual(all_most(LEAST), ((0,),))

    def test_none_where_there_is_no_most(self):
        none = (None,) * 4
        alone = tuple(none[:k] + (0,) + none[k + 1:] for k in range(4))
        self.assertEqual(all_most(by_letters()), alone)
        bound = all_most(by_letters((A, B, 4, None)))
        self.assertEqual(bound, (alone[0], (-4, 0, None, None)) + alone[2:])

    def test_as_the_mosts_tell(self):
        for record in WITH_WORLD:
            most, places = TABLES[record], events(record)
            expected = tuple([tuple([most[one, other] for other in places]) for one in places])
            self.assertEqual(repr_of(all_most(record)), repr_of(expected), record)

    def test_as_each_alone(self):
        for record in [PAIR, EIGHT, FULL, AT_ONCE]:
            told, places = all_most(record), events(record)
            for one, other in pairs(record):
                alone = most_between(record, one, other)
                self.assertEqual(told[places.index(one)][places.index(other)], alone)

    def test_refusals(self):
        for thing in NO_RECORDS:
            refuses(self, NoRecord, all_most, thing)
        for record in WITHOUT_WORLD:
            refuses(self, NoWorld, all_most, record)


class WorldWith(Refusals):
    def check(self, record, one, other, many, good):
        told = world_with(record, one, other, many)
        self.assertIs(told is not None, good, (record, one, other, many))
        if good:
            self.assertIs(type(told), tuple)
            self.assertIs(is_world(record, told), True, (record, one, other, many))
            time_of = dict(zip(events(record), told))
            self.assertEqual(time_of[other] - time_of[one], many, (record, one, other))

    def test_ordinary(self):
        for many in range(-3, 12):
            self.check(PAIR, (0, 0), (1, 1), many, 5 <= many <= 8)
            self.check(PAIR, (1, 1), (0, 0), -many, 5 <= many <= 8)
            self.check(PAIR, (0, 0), (1, 0), many, 2 <= many <= 5)

    def test_an_event_and_itself(self):
        for record in [PAIR, LEAST, FULL, AT_ONCE]:
            for many in [-10 ** 30, -2, -1, 0, 1, 2, 10 ** 30]:
                self.check(record, A, A, many, many == 0)

    def test_at_each_end_and_beyond_it(self):
        for record in few(WITH_WORLD):
            for one, other in pairs(record):
                most, back = TABLES[record][one, other], TABLES[record][other, one]
                if most is not None:
                    self.check(record, one, other, most, True)
                    self.check(record, one, other, most + 1, False)
                    self.check(record, one, other, most + 10 ** 30, False)
                if back is not None:
                    self.check(record, one, other, -back, True)
                    self.check(record, one, other, -back - 1, False)

    def test_any_number_where_there_is_no_end(self):
        record = by_letters((A, B, 4, None))
        for many in [-10 ** 30, -1, 0, 3, 4, 5, 999, 10 ** 30]:
            self.check(record, A, B, many, many >= 4)
            self.check(record, B, A, -many, many >= 4)
            self.check(record, A, C, many, True)

    def test_every_number_between(self):
        for record in SMALL[::5]:
            if TABLES[record] is None:
                continue
            for one, other in pairs(record):
                most, back = TABLES[record][one, other], TABLES[record][other, one]
                for many in range(-8, 9):
                    good = (most is None or many <= most) and (back is None or -back <= many)
                    self.check(record, one, other, many, good)

    def test_refusals(self):
        for many in [0, 7]:
            self.refuses_pairs(world_with, many)
            self.refuses_without_world(world_with, many)
            self.changes_nothing(world_with, many)


class Way(Refusals):
    def test_ordinary(self):
        self.assertEqual(way(PAIR, (0, 0), (0, 1)), [0])
        self.assertEqual(way(PAIR, (0, 1), (0, 0)), [1])
        self.assertEqual(way(PAIR, (0, 1), (1, 0)), [1, 5, 3])
        self.assertEqual(way(PAIR, (1, 0), (0, 1)), [2, 4, 0])

    def test_empty_of_an_event_and_itself(self):
        for record in few(WITH_WORLD):
            for event in events(record):
                self.assertEqual(way(record, event, event), [], record)

    def test_none_where_there_is_no_most(self):
        record = by_letters((A, B, 4, None))
        self.assertIsNone(way(record, A, B))
        self.assertEqual(way(record, B, A), [0])
        self.assertIsNone(way(record, A, C))

    def test_it_leads_there_and_comes_to_the_most(self):
        for record in few(WITH_WORLD):
            limits = bounds(record)
            for one, other in pairs(record):
                told, most = way(record, one, other), TABLES[record][one, other]
                self.assertIs(told is None, most is None, record)
                if told is None:
                    continue
                self.assertIs(type(told), list)
                self.assertLessEqual({type(number) for number in told}, {int})
                self.assertTrue(leads_from_to(limits, one, other, told), record)
                self.assertEqual(comes_to(limits, told), most, record)
                self.assertIs(shows(record, one, other, most, told), True, record)
                self.assertIs(shows(record, one, other, most - 1, told), False, record)

    def test_a_new_list_each_time(self):
        for one, other in pairs(PAIR):
            before = list(way(PAIR, one, other))
            way(PAIR, one, other).clear()
            way(PAIR, one, other).append(None)
            self.assertEqual(way(PAIR, one, other), before)

    def test_refusals(self):
        self.refuses_pairs(way)
        self.refuses_without_world(way)
        self.changes_nothing(way)


class Shows(Refusals):
    def test_ordinary(self):
        for many, good in [(-16, False), (-15, True), (-14, True), (0, True), (10 ** 30, True), (-10 ** 30, False)]:
            self.assertIs(shows(PAIR, (0, 1), (1, 0), many, [1, 5, 3]), good, many)
        for thing in [[1], [1, 5], [5, 3], [3, 5, 1], [1, 3, 5], [], [1, 5, 3, 2], [0, 1, 5, 3]]:
            self.assertIs(shows(PAIR, (0, 1), (1, 0), 999, thing), False, thing)

    def test_only_from_the_one_to_the_other(self):
        for one, other in pairs(PAIR):
            self.assertIs(shows(PAIR, one, other, 999, [1, 5, 3]), (one, other) == ((0, 1), (1, 0)))

    def test_an_empty_one_of_an_event_and_itself(self):
        for record in [PAIR, LEAST, NO_WORLD, EIGHT]:
            for one, other in pairs(record):
                for many in [-10 ** 30, -1, 0, 1, 10 ** 30]:
                    self.assertIs(shows(record, one, other, many, []), one == other and many >= 0)

    def test_a_round_of_an_event_and_itself(self):
        self.assertIs(shows(PAIR, (0, 0), (0, 0), 10, [0, 1]), True)
        self.assertIs(shows(PAIR, (0, 0), (0, 0), 9, [0, 1]), False)
        self.assertIs(shows(PAIR, (0, 1), (0, 1), 10, [0, 1]), False)

    def test_where_there_is_no_world(self):
        self.assertIs(shows(NO_WORLD, A, B, 8, [1]), True)
        self.assertIs(shows(NO_WORLD, A, B, 7, [1]), False)
        self.assertIs(shows(NO_WORLD, A, A, -5, [2, 0]), True)
        self.assertIs(shows(NO_WORLD, A, A, -6, [2, 0]), False)
        self.assertIs(shows(NO_WORLD, A, B, -10, [2, 0, 2, 0, 2]), True)

    def test_a_longer_way_shows_less(self):
        self.assertIs(shows(EIGHT, A, C, 11, way(EIGHT, A, C)), True)
        record = by_letters((A, B, 0, 5), (B, C, 0, 5), (A, C, 0, 7))
        self.assertIs(shows(record, A, C, 7, [5]), True)
        self.assertIs(shows(record, A, C, 9, [1, 3]), False)
        self.assertIs(shows(record, A, C, 10, [1, 3]), True)

    def test_each_short_list_by_the_words_of_the_document(self):
        for record in [NO_WORLD, PAIR, AT_ONCE, LEAST]:
            limits = bounds(record)
            for numbers in itertools.chain(*[itertools.product(range(len(limits)), repeat=k) for k in range(4)]):
                many = comes_to(limits, numbers)
                for one, other in pairs(record):
                    good = leads_from_to(limits, one, other, numbers)
                    self.assertIs(shows(record, one, other, many, list(numbers)), good)
                    self.assertIs(shows(record, one, other, many - 1, list(numbers)), False)

    def test_what_is_shown_is_so_in_all_worlds(self):
        for record in SMALL[::7]:
            if TABLES[record] is None:
                continue
            for number, (one, other, most) in enumerate(bounds(record)):
                self.assertIs(shows(record, one, other, most, [number]), True)
                self.assertGreaterEqual(most, TABLES[record][one, other])

    def test_numbers_that_no_bound_has(self):
        for odd in [6, 7, -1, -6, 10 ** 5000, -10 ** 5000, None, "0", "", [0], (0,), [], True, False]:
            for thing in [[odd], [odd, 5, 3], [1, odd, 3], [1, 5, odd], [1, 5, 3, odd], [odd, 1, 5, 3]]:
                self.assertIs(shows(PAIR, (0, 1), (1, 0), 999, thing), False, repr_of(thing))

    def test_truths_are_no_numbers(self):
        self.assertIs(shows(PAIR, (0, 1), (1, 0), 999, [True, 5, 3]), False)
        self.assertIs(shows(PAIR, (0, 0), (0, 1), 30, [0]), True)
        self.assertIs(shows(PAIR, (0, 0), (0, 1), 30, [False]), False)

    def test_what_is_no_list(self):
        for thing in ODD + [(1, 5, 3), "153", 1, [(1, 5, 3)], [[1, 5, 3]], ([1, 5, 3],), [1, [5, 3]]]:
            self.assertIs(shows(PAIR, (0, 1), (1, 0), 999, thing), False, repr_of(thing))
        for thing in [(), "", None, False, ((),), [[]]]:
            self.assertIs(shows(PAIR, A, A, 0, thing), False, thing)

    def test_many_is_a_whole_number(self):
        for many in [True, False, None, "0", [0]]:
            self.assertIs(shows(PAIR, A, A, many, []), False, many)
            self.assertIs(shows(PAIR, (0, 1), (0, 0), many, [1]), False, many)

    def test_refusals(self):
        for thing in [[], [0], None, (0,)]:
            self.refuses_pairs(shows, 0, thing)
            self.changes_nothing(shows, 0, thing)

    def test_the_thing_is_not_changed(self):
        for thing in ODD + [[1, 5, 3], [3, 5, 1], [1, [5, 3]]]:
            leaves_unchanged(self, [PAIR, (0, 1), (1, 0), 0, thing], shows)


if __name__ == "__main__":
    unittest.main()
