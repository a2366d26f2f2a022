import itertools
import unittest

from farclocks.errors import NoEvent, NoRecord, NoWorld
from farclocks.orders import (
    an_order, fits_order, maybe_ahead, maybe_at_once, sure_pairs, surely_ahead, told_order, verdict,
)
from farclocks.records import events
from farclocks.worlds import world
from samples import (
    A, AT_ONCE, B, C, CLOCKS, D, DEEPEST, DRAWN, EIGHT, FULL, LEAST, NAMED, NO_EVENTS, NO_RECORDS, NO_WORLD, PAIR,
    RECORDS, SMALL, TABLES, WITH_WORLD, WITHOUT_WORLD, by_letters, leaves_unchanged, pairs, refuses, repr_of, table,
    tried_apart, tried_worlds, with_clock,
)

FEW = [record for record in WITH_WORLD if record in NAMED + DRAWN[::5] + SMALL[::5]]


def all_told(record, one, other):
    """Surely ahead, maybe ahead, maybe at once, and the verdict."""
    return tuple([call(record, one, other) for call in [surely_ahead, maybe_ahead, maybe_at_once, verdict]])


AHEAD = (True, True, False, "ahead")
BEHIND = (False, False, False, "behind")


class Ahead(unittest.TestCase):
    def check(self, record, one, other, expected):
        self.assertEqual(repr_of(all_told(record, one, other)), repr_of(expected), (record, one, other))

    def test_readings_of_one_clock(self):
        record = with_clock((2, 3, (5, 9, 40)))
        self.check(record, (0, 0), (0, 2), AHEAD)
        self.check(record, (0, 2), (0, 1), BEHIND)

    def test_of_two_clocks(self):
        self.check(PAIR, (0, 0), (1, 0), AHEAD)
        self.check(PAIR, (0, 1), (1, 1), BEHIND)
        self.check((CLOCKS, ()), (0, 0), (2, 0), (False, True, True, "open"))

    def test_at_once(self):
        at_once = (False, False, True, "at once")
        self.check(AT_ONCE, A, B, at_once)
        self.check(AT_ONCE, B, A, at_once)
        self.check(by_letters((A, B, 0, 0)), B, A, at_once)
        for record in [PAIR, LEAST, FULL]:
            self.check(record, A, A, at_once)

    def test_just_at_the_edges(self):
        self.check(by_letters((A, B, 1, 1)), A, B, AHEAD)
        self.check(by_letters((A, B, 1, None)), A, B, AHEAD)
        self.check(by_letters((A, B, 1, None)), B, A, BEHIND)
        self.check(by_letters((A, B, 0, 1)), A, B, (False, True, True, "open"))
        self.check(by_letters((A, B, 0, None)), A, B, (False, True, True, "open"))
        self.check(by_letters((A, B, 0, 1)), B, A, (False, False, True, "open"))
        self.check(by_letters((A, B, 0, None)), B, A, (False, False, True, "open"))

    def test_both_ways_round_0(self):
        record = by_letters((A, B, 3, 5), (C, B, 4, 4))
        self.check(record, A, C, (False, True, True, "open"))
        self.check(record, C, A, (False, True, True, "open"))

    def test_neither_bound(self):
        self.check(by_letters((A, B, 3, 5)), C, D, (False, True, True, "open"))

    def test_along_several_letters(self):
        record = by_letters((A, B, 0, None), (B, C, 1, 1), (C, D, 0, 3))
        self.check(record, A, D, AHEAD)
        self.check(record, D, B, BEHIND)
        self.check(record, D, C, (False, False, True, "open"))

    def test_as_the_mosts_tell(self):
        for record in FEW:
            for one, other in pairs(record):
                most, back = TABLES[record][one, other], TABLES[record][other, one]
                ahead, behind = back is not None and back < 0, most is not None and most < 0
                word = "ahead" if ahead else "behind" if behind else "at once" if most == back == 0 else "open"
                expected = (ahead, most is None or most > 0, not ahead and not behind, word)
                self.check(record, one, other, expected)

    def test_as_the_worlds_that_are_tried(self):
        for record in SMALL[::2]:
            for (one, other), apart in tried_apart(record).items():
                ahead, behind, never = min(apart) > 0, max(apart) < 0, min(apart) == max(apart) == 0
                word = "ahead" if ahead else "behind" if behind else "at once" if never else "open"
                self.check(record, one, other, (ahead, max(apart) > 0, 0 in apart, word))

    def test_refusals(self):
        for call in [surely_ahead, maybe_ahead, maybe_at_once, verdict]:
            for thing in NO_RECORDS:
                for one, other in [(A, A), (None, None), ((9, 9), A)]:
                    refuses(self, NoRecord, call, thing, one, other)
            for record in [PAIR, EIGHT, NO_WORLD]:
                for thing in NO_EVENTS:
                    for one, other in [(thing, A), (A, thing), (thing, thing)]:
                        refuses(self, NoEvent, call, record, one, other)
            for record in WITHOUT_WORLD:
                for one, other in [(A, A), (A, events(record)[-1]), (events(record)[-1], A)]:
                    refuses(self, NoWorld, call, record, one, other)


class SurePairs(unittest.TestCase):
    def test_ordinary(self):
        expected = [
            ((0, 0), (0, 1)), ((0, 0), (1, 0)), ((0, 0), (1, 1)), ((1, 0), (0, 1)), ((1, 0), (1, 1)), ((1, 1), (0, 1)),
        ]
        self.assertEqual(repr_of(sure_pairs(PAIR)), repr_of(expected))

    def test_none(self):
        for record in [LEAST, AT_ONCE, by_letters(), by_letters((A, B, 0, None))]:
            self.assertEqual(sure_pairs(record), [])

    def test_they_rise(self):
        self.assertEqual(sure_pairs(by_letters((D, A, 1, None), (C, B, 1, 1))), [(C, B), (D, A)])
        for record in WITH_WORLD:
            told = sure_pairs(record)
            self.assertEqual(told, sorted(set(told)), record)

    def test_as_surely_ahead(self):
        for record in FEW:
            expected = [pair for pair in pairs(record) if surely_ahead(record, pair[0], pair[1])]
            self.assertEqual(sure_pairs(record), expected, record)

    def test_being_surely_ahead_leads_on(self):
        for record in WITH_WORLD:
            told = sure_pairs(record)
            for (one, over), (start, other) in itertools.product(told, repeat=2):
                if over == start:
                    self.assertIn((one, other), told, record)

    def test_a_new_list_each_time(self):
        before = list(sure_pairs(PAIR))
        sure_pairs(PAIR).clear()
        sure_pairs(PAIR).append(None)
        self.assertEqual(sure_pairs(PAIR), before)

    def test_refusals(self):
        for thing in NO_RECORDS:
            refuses(self, NoRecord, sure_pairs, thing)
        for record in WITHOUT_WORLD:
            refuses(self, NoWorld, sure_pairs, record)


class ToldOrder(unittest.TestCase):
    def test_by_their_times(self):
        self.assertEqual(told_order(PAIR, (0, 20, 2, 5)), [(0, 0), (1, 0), (1, 1), (0, 1)])
        self.assertEqual(told_order(PAIR, (3, 2, 1, 0)), [(1, 1), (1, 0), (0, 1), (0, 0)])
        self.assertEqual(told_order(PAIR, (10 ** 30, -10 ** 30, 0, -1)), [(0, 1), (1, 1), (1, 0), (0, 0)])
        self.assertEqual(told_order(LEAST, (5,)), [(0, 0)])

    def test_at_once_by_their_numbers(self):
        for record in RECORDS:
            self.assertEqual(told_order(record, (7,) * len(events(record))), events(record))
        self.assertEqual(told_order(PAIR, (1, 0, 1, 0)), [(0, 1), (1, 1), (0, 0), (1, 0)])
        self.assertEqual(told_order(PAIR, (0, 1, 0, 0)), [(0, 0), (1, 0), (1, 1), (0, 1)])

    def test_also_without_a_world(self):
        self.assertEqual(told_order(NO_WORLD, (2, 0, 1, 0)), [B, D, C, A])

    def test_the_times_are_not_changed_and_the_list_is_new(self):
        leaves_unchanged(self, [PAIR, (0, 20, 2, 5)], told_order)
        told_order(PAIR, (0, 20, 2, 5)).clear()
        self.assertEqual(told_order(PAIR, (0, 20, 2, 5)), [(0, 0), (1, 0), (1, 1), (0, 1)])

    def test_kinds(self):
        self.assertEqual(repr_of(told_order(LEAST, (0,))), repr_of([(0, 0)]))

    def test_no_record(self):
        for thing in NO_RECORDS:
            refuses(self, NoRecord, told_order, thing, (0,))


class AnOrder(unittest.TestCase):
    def test_that_of_the_world(self):
        self.assertEqual(an_order(PAIR), [(0, 0), (1, 0), (1, 1), (0, 1)])
        self.assertEqual(an_order(AT_ONCE), [A, B, C, D])
        self.assertEqual(an_order(by_letters((D, A, 1, None))), [D, A, B, C])
        for record in WITH_WORLD:
            self.assertEqual(an_order(record), told_order(record, world(record)), record)

    def test_none_without_a_world(self):
        for record in WITHOUT_WORLD:
            self.assertIsNone(an_order(record), record)

    def test_a_new_list_each_time(self):
        an_order(PAIR).clear()
        an_order(PAIR).append(None)
        self.assertEqual(an_order(PAIR), [(0, 0), (1, 0), (1, 1), (0, 1)])

    def test_no_record(self):
        for thing in NO_RECORDS:
            refuses(self, NoRecord, an_order, thing)


class FitsOrder(unittest.TestCase):
    def test_ordinary(self):
        fitting = [order for order in itertools.permutations(events(PAIR)) if fits_order(PAIR, list(order))]
        self.assertEqual(fitting, [((0, 0), (1, 0), (1, 1), (0, 1))])
        self.assertIs(fits_order(LEAST, [(0, 0)]), True)

    def test_those_at_once_fit_either_way(self):
        for order in itertools.permutations([A, B, C, D]):
            self.assertIs(fits_order(AT_ONCE, list(order)), True, order)
            at_once = by_letters((A, B, 0, None))
            self.assertIs(fits_order(at_once, list(order)), True, order)
            ahead = order.index(A) < order.index(B)
            self.assertIs(fits_order(by_letters((A, B, 1, None)), list(order)), ahead, order)

    def test_each_two_may_fit_and_not_all(self):
        # A is 3 behind B at most and C is 5 behind B at least: whoever is between them is not C.
        record = by_letters((B, A, 0, 3), (B, C, 5, None))
        self.assertIs(fits_order(record, [B, A, C, D]), True)
        self.assertIs(fits_order(record, [B, A, D, C]), True)
        self.assertIs(fits_order(record, [D, B, A, C]), True)
        self.assertIs(fits_order(record, [B, C, A, D]), False)
        self.assertIs(fits_order(record, [A, B, C, D]), True)
        self.assertIs(fits_order(record, [C, B, A, D]), False)

    def test_that_of_the_world_fits(self):
        for record in WITH_WORLD:
            self.assertIs(fits_order(record, an_order(record)), True, record)

    def test_none_without_a_world(self):
        for record in WITHOUT_WORLD:
            self.assertIs(fits_order(record, events(record)), False, record)
            self.assertIs(fits_order(record, events(record)[::-1]), False, record)

    def test_as_the_worlds_that_are_tried(self):
        for record in SMALL[::2]:
            tried = tried_worlds(record, DEEPEST)
            places = events(record)
            for order in itertools.permutations(range(len(places))):
                good = any(list(order) == sorted(order, key=lambda k: (times[k], order.index(k))) for times in tried)
                self.assertIs(fits_order(record, [places[k] for k in order]), good, (record, order))

    def test_as_the_mosts_tell(self):
        for record in FEW[::2]:
            for k in range(len(events(record))):
                order = an_order(record)
                order = order[k:] + order[:k]
                more = [(other, one, 0) for one, other in zip(order, order[1:])]
                self.assertIs(fits_order(record, order), table(record, more=more) is not None, (record, order))

    def test_an_event_left_out(self):
        for record in [PAIR, AT_ONCE, FULL, LEAST, NO_WORLD]:
            order = an_order(record) or events(record)
            for k in range(len(order)):
                self.assertIs(fits_order(record, order[:k] + order[k + 1:]), False)
            self.assertIs(fits_order(record, []), False)

    def test_an_event_twice(self):
        for record in [PAIR, AT_ONCE, FULL, LEAST]:
            order = an_order(record)
            for k in range(len(order)):
                self.assertIs(fits_order(record, order[:k] + order[k:k + 1] + order[k:]), False)
                self.assertIs(fits_order(record, order + order), False)
        self.assertIs(fits_order(AT_ONCE, [A, B, C, C]), False)

    def test_no_event(self):
        for record in [PAIR, NO_WORLD]:
            order = events(record)
            for thing in NO_EVENTS:
                for k in range(len(order) + 1):
                    refuses(self, NoEvent, fits_order, record, order[:k] + [thing] + order[k:])
                    refuses(self, NoEvent, fits_order, record, order[:k] + [thing] + order[k + 1:])
                refuses(self, NoEvent, fits_order, record, [thing])

    def test_no_record_comes_first(self):
        for thing in NO_RECORDS:
            for order in [[], [A], [None], [(9, 9)]]:
                refuses(self, NoRecord, fits_order, thing, order)

    def test_the_order_is_not_changed(self):
        for order in [events(PAIR), events(PAIR)[::-1], an_order(PAIR), [], [A], [A, A]]:
            leaves_unchanged(self, [PAIR, order], fits_order)
        for order in [[[0, 0]], [A, [[(0, [])]]], [None]]:
            leaves_unchanged(self, [PAIR, order], lambda record, order: refuses(self, NoEvent, fits_order, record, order))


if __name__ == "__main__":
    unittest.main()
