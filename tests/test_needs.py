import itertools
import unittest

from farclocks.bounds import bounds, of_letter
from farclocks.errors import NoNumber, NoRecord, NoWorld
from farclocks.needs import culprits, is_needless, least_letters, most_kept, needless_letters, same_worlds
from farclocks.records import events, is_record
from samples import (
    A, AT_ONCE, B, C, CLOCKS, D, DEEPEST, DRAWN, EIGHT, EIGHT_WITHOUT_WORLD, FULL, LEAST, NAMED, NO_RECORDS, NO_WORLD,
    ODD, PAIR, RECORD, RECORDS, SMALL, TABLES, WITH_WORLD, WITHOUT_WORLD, by_letters, leaves_unchanged, refuses,
    repr_of, table, tried_worlds, with_clock,
)

FEW = [record for record in WITH_WORLD if record in NAMED + DRAWN[::3] + SMALL[::3]]
FEW_WITHOUT = [record for record in WITHOUT_WORLD if record in NAMED + DRAWN[::2] + SMALL[::2]]

# From A to B 5 to 8, from B to C 2 to 3: so from A to C 7 to 11.
CHAIN = ((A, B, 5, 8), (B, C, 2, 3))


def with_only(record, numbers):
    return (record[0], tuple([record[1][number] for number in numbers]))


def all_but(record, number):
    return with_only(record, [other for other in range(len(record[1])) if other != number])


class NewLists(unittest.TestCase):
    def new_each_time(self, call, record):
        before = list(call(record))
        call(record).clear()
        call(record).append(None)
        self.assertEqual(call(record), before)

    def list_of_rising_numbers(self, told):
        self.assertIs(type(told), list)
        self.assertLessEqual({type(number) for number in told}, {int})
        self.assertEqual(told, sorted(set(told)))


class IsNeedless(unittest.TestCase):
    def told(self, record):
        return [number for number in range(len(bounds(record))) if is_needless(record, number)]

    def test_all_matter(self):
        for record in [PAIR, LEAST, by_letters(*CHAIN), with_clock((2, 3, (5, 9, 40))), (CLOCKS, ())]:
            self.assertEqual(self.told(record), [])

    def test_each_bound_of_a_letter_by_itself(self):
        for least, most, expected in [
            (7, 11, [4, 5]), (6, 12, [4, 5]), (8, 11, [0, 5]), (7, 10, [1, 4]), (8, 10, [0, 1]), (9, 9, [0, 1]),
        ]:
            self.assertEqual(self.told(by_letters(*CHAIN, (A, C, least, most))), expected, (least, most))

    def test_letters_without_a_most(self):
        self.assertEqual(self.told(by_letters(*CHAIN, (A, C, 7, None))), [4])
        self.assertEqual(self.told(by_letters(*CHAIN, (A, C, 8, None))), [0])
        self.assertEqual(self.told(by_letters((A, B, 1, None), (B, C, 1, None), (A, C, 2, None))), [2])

    def test_those_alike_can_each_be_left_out(self):
        self.assertEqual(self.told(FULL), list(range(24, 32)))
        self.assertEqual(self.told(by_letters((A, B, 1, 2), (A, B, 1, 3))), [0, 2, 3])

    def test_bounds_of_clocks(self):
        clock = (2, 3, (5, 9, 40))
        self.assertEqual(self.told(((clock,), (((0, 0), (0, 1), 9, 10),))), [0, 1])
        self.assertEqual(self.told(((clock,), (((0, 0), (0, 1), 8, 12),))), [0, 1, 4, 5])
        self.assertEqual(self.told(((clock,), (((0, 0), (0, 2), 71, 105),))), [5])
        self.assertEqual(self.told(((clock,), (((0, 0), (0, 2), 105, 105),))), [1, 3, 5])

    def test_as_the_mosts_tell(self):
        for record in FEW:
            for number in range(len(bounds(record))):
                same = table(record, without=[number]) == TABLES[record]
                self.assertIs(is_needless(record, number), same, (record, number))

    def test_refusals(self):
        for thing in NO_RECORDS:
            for number in [0, 99, None, True]:
                refuses(self, NoRecord, is_needless, thing, number)
        for number in ODD + [6, 7, -6, (0,), [0], "0"]:
            refuses(self, NoNumber, is_needless, PAIR, number)
        refuses(self, NoNumber, is_needless, LEAST, 0)
        for record in WITHOUT_WORLD:
            many = len(bounds(record))
            for number in [many, many + 1, -1, None, True, False, [0]]:
                refuses(self, NoNumber, is_needless, record, number)
            for number in [0, many - 1]:
                refuses(self, NoWorld, is_needless, record, number)

    def test_nothing_is_changed(self):
        for number in [[0], [[(0, [])]]]:
            leaves_unchanged(self, [PAIR, number], lambda record, number: refuses(
                self, NoNumber, is_needless, record, number))


class NeedlessLetters(NewLists):
    def test_ordinary(self):
        for least, most, expected in [
            (7, 11, [2]), (6, 12, [2]), (8, 11, []), (7, 10, []), (0, None, [2]), (7, None, [2]), (8, None, []),
        ]:
            self.assertEqual(needless_letters(by_letters(*CHAIN, (A, C, least, most))), expected, (least, most))

    def test_none(self):
        for record in [PAIR, LEAST, by_letters(), (CLOCKS, ()), by_letters(*CHAIN)]:
            self.assertEqual(needless_letters(record), [])

    def test_each_alone(self):
        self.assertEqual(needless_letters(FULL), list(range(8)))
        self.assertEqual(needless_letters(by_letters((A, B, 1, 2), (A, B, 1, 2))), [0, 1])
        self.assertEqual(needless_letters(by_letters((A, B, 1, 2), (A, B, 1, 2), (A, B, 0, 3))), [0, 1, 2])
        self.assertEqual(needless_letters(by_letters((A, B, 1, 2), (A, B, 0, 3))), [1])
        self.assertEqual(needless_letters(EIGHT), [2, 3, 5])

    def test_both_bounds_of_a_letter_together(self):
        # Each bound of the last letter is there again in another letter, and so both are.
        self.assertEqual(needless_letters(by_letters((A, B, 3, 9), (A, B, 1, 5), (A, B, 3, 5))), [0, 1, 2])
        # The one bound of the last letter is there again, the other one is not.
        self.assertEqual(needless_letters(by_letters((A, B, 3, 9), (A, B, 1, 6), (A, B, 3, 5))), [0, 1])

    def test_a_clock_can_make_a_letter_needless(self):
        clock = (2, 3, (5, 9, 40))
        for least, most, expected in [(70, 105, [0]), (71, 105, []), (70, 104, []), (0, None, [0])]:
            self.assertEqual(needless_letters(((clock,), (((0, 0), (0, 2), least, most),))), expected)

    def test_as_the_mosts_tell(self):
        for record in FEW:
            told = needless_letters(record)
            self.list_of_rising_numbers(told)
            expected = [k for k in range(len(record[1])) if table(all_but(record, k)) == TABLES[record]]
            self.assertEqual(told, expected, record)

    def test_they_let_by_the_same_worlds_and_others_do_not(self):
        for record in SMALL[::3]:
            if TABLES[record] is None:
                continue
            tried = tried_worlds(record, DEEPEST)
            for number in range(len(record[1])):
                less = tried_worlds(all_but(record, number), DEEPEST)
                self.assertLessEqual(set(tried), set(less))
                self.assertIs(less == tried, number in needless_letters(record), (record, number))

    def test_a_new_list_each_time(self):
        for record in [FULL, EIGHT, LEAST]:
            self.new_each_time(needless_letters, record)

    def test_refusals(self):
        for thing in NO_RECORDS:
            refuses(self, NoRecord, needless_letters, thing)
        for record in WITHOUT_WORLD:
            refuses(self, NoWorld, needless_letters, record)


class LeastLetters(unittest.TestCase):
    def keeps(self, record, numbers):
        told = least_letters(record)
        self.assertEqual(repr_of(told), repr_of(with_only(record, numbers)), record)

    def test_all_stay(self):
        for record in [PAIR, by_letters(*CHAIN), LEAST, by_letters(), (CLOCKS, ())]:
            self.assertEqual(least_letters(record), record)

    def test_from_the_last_on(self):
        self.keeps(FULL, [0])
        self.keeps(by_letters((A, B, 1, 2), (A, B, 1, 2)), [0])
        self.keeps(by_letters((A, B, 0, 3), (A, B, 1, 2)), [1])
        self.keeps(by_letters((A, B, 3, 9), (A, B, 1, 5), (A, B, 3, 5)), [0, 1])
        self.keeps(by_letters((A, B, 3, 5), (A, B, 3, 9), (A, B, 1, 5)), [0])

    def test_those_behind_being_as_decided(self):
        # The letters from A to C and from B to C are each needless by the other; the last one goes, the first stays.
        record = by_letters((A, B, 4, 4), (A, C, 6, 6), (B, C, 2, 2))
        self.assertEqual(needless_letters(record), [0, 1, 2])
        self.assertEqual(least_letters(record), by_letters((A, B, 4, 4), (A, C, 6, 6)))

    def test_of_clocks_with_several_readings(self):
        clocks = ((1, 1, (0, 1)), (1, 1, (0,)))
        first, second = ((1, 0), (0, 0), 1, None), ((1, 0), (0, 1), 2, None)
        self.assertEqual(least_letters((clocks, (first, second))), (clocks, (first,)))
        self.assertEqual(least_letters((clocks, (second, first))), (clocks, (second,)))

    def test_none_stays(self):
        record = (((2, 3, (5, 9, 40)),), (((0, 0), (0, 2), 0, None), ((0, 1), (0, 2), 62, 93)))
        self.assertEqual(least_letters(record), (record[0], ()))

    def test_eight(self):
        self.keeps(EIGHT, [0, 1, 4, 6, 7])

    def test_step_by_step(self):
        for record in FEW:
            kept = list(range(len(record[1])))
            for number in sorted(kept, reverse=True):
                fewer = [k for k in kept if k != number]
                if table(with_only(record, fewer)) == table(with_only(record, kept)):
                    kept = fewer
            self.keeps(record, kept)

    def test_the_worlds_are_the_same_and_no_letter_more_can_go(self):
        for record in FEW:
            least = least_letters(record)
            self.assertIs(is_record(least), True, record)
            self.assertIs(same_worlds(least, record), True, record)
            self.assertEqual(needless_letters(least), [], record)
            self.assertEqual(least_letters(least), least, record)

    def test_refusals(self):
        for thing in NO_RECORDS:
            refuses(self, NoRecord, least_letters, thing)
        for record in WITHOUT_WORLD:
            refuses(self, NoWorld, least_letters, record)


class SameWorlds(unittest.TestCase):
    def check(self, one, other, same):
        self.assertIs(same_worlds(one, other), same, (one, other))
        self.assertIs(same_worlds(other, one), same, (other, one))

    def test_a_record_and_itself(self):
        for record in RECORDS:
            self.check(record, record, True)

    def test_letters_that_do_not_matter(self):
        self.check(by_letters(*CHAIN), by_letters(*CHAIN, (A, C, 7, 11)), True)
        self.check(by_letters(*CHAIN), by_letters(*CHAIN, (A, C, 8, 11)), False)
        self.check(by_letters(*CHAIN), by_letters(*CHAIN[::-1]), True)
        self.check(by_letters((A, B, 0, 0)), AT_ONCE, True)
        self.check(by_letters((A, B, 1, None)), by_letters((A, B, 1, 999)), False)

    def test_readings_and_steps_count_as_the_worlds_do(self):
        self.check(with_clock((1, 1, (0, 4))), with_clock((2, 2, (7, 9))), True)
        self.check(with_clock((1, 2, (0, 4))), with_clock((2, 2, (7, 9))), False)
        self.check(with_clock((1, 9, (0,))), with_clock((3, 3, (99,))), True)

    def test_unlike_events(self):
        self.check(LEAST, by_letters(), False)
        self.check(with_clock((1, 1, (0, 1))), with_clock((1, 1, (0, 1, 2))), False)
        clocks = ((1, 1, (0, 1)), (1, 1, (0,)))
        self.check((clocks, ()), (clocks[::-1], ()), False)
        self.check(PAIR, RECORD, False)

    def test_one_has_a_world_and_the_other_has_none(self):
        self.check(NO_WORLD, AT_ONCE, False)
        self.check(NO_WORLD, by_letters(), False)

    def test_neither_has_a_world(self):
        self.check(NO_WORLD, by_letters((A, B, 1, None), (B, A, 1, None)), True)
        self.check(NO_WORLD, EIGHT_WITHOUT_WORLD, True)
        self.check(NO_WORLD, RECORD, False)

    def test_each_two_small_ones(self):
        tried = {record: (events(record), tried_worlds(record, DEEPEST)) for record in SMALL}
        for one, other in itertools.product(SMALL, repeat=2):
            self.assertIs(same_worlds(one, other), tried[one] == tried[other], (one, other))

    def test_no_record(self):
        for thing in NO_RECORDS:
            for other in [LEAST, NO_WORLD, thing]:
                refuses(self, NoRecord, same_worlds, thing, other)
                refuses(self, NoRecord, same_worlds, other, thing)

    def test_nothing_is_changed(self):
        for thing in [[LEAST], [list(LEAST)], [[(0, [])]]]:
            leaves_unchanged(self, [LEAST, thing], lambda one, other: refuses(self, NoRecord, same_worlds, one, other))


def kept_by_trying(record):
    """The first of the greatest sets of letters with a world, as lists rise."""
    numbers = range(len(record[1]))
    for many in range(len(record[1]), -1, -1):
        good = [kept for kept in itertools.combinations(numbers, many) if table(with_only(record, kept)) is not None]
        if good:
            return list(min(good))


class MostKept(NewLists):
    def test_all_where_there_is_a_world(self):
        for record in WITH_WORLD:
            self.assertEqual(most_kept(record), list(range(len(record[1]))), record)

    def test_the_first_of_several(self):
        self.assertEqual(most_kept(NO_WORLD), [0])
        self.assertEqual(most_kept(RECORD), [0, 1])
        self.assertEqual(most_kept(EIGHT_WITHOUT_WORLD), [0, 1, 2, 3, 4, 5, 6])
        late = (A, B, 5, None)
        self.assertEqual(most_kept(by_letters((A, B, 0, 4), late, (C, D, 1, 1), (A, B, 0, 4), late)), [0, 2, 3])

    def test_the_most_go_ahead_of_the_first(self):
        self.assertEqual(most_kept(by_letters((A, B, 0, 4), (A, B, 5, None), (A, B, 6, None))), [1, 2])
        self.assertEqual(most_kept(by_letters((A, B, 0, 4), (B, A, 1, 9), (A, B, 5, None), (A, B, 6, None))), [2, 3])

    def test_none_can_stay(self):
        record = (((2, 3, (5, 9, 40)),), (((0, 2), (0, 0), 0, None), ((0, 0), (0, 1), 13, None)))
        self.assertEqual(most_kept(record), [])
        self.assertEqual(most_kept(LEAST), [])

    def test_as_each_set_that_is_tried(self):
        for record in FEW_WITHOUT:
            self.list_of_rising_numbers(most_kept(record))
            self.assertEqual(most_kept(record), kept_by_trying(record), record)

    def test_a_new_list_each_time(self):
        for record in [FULL, RECORD, LEAST]:
            self.new_each_time(most_kept, record)

    def test_no_record(self):
        for thing in NO_RECORDS:
            refuses(self, NoRecord, most_kept, thing)


class Culprits(NewLists):
    def test_none_where_there_is_a_world(self):
        for record in WITH_WORLD:
            told = culprits(record)
            self.assertIs(type(told), list)
            self.assertEqual(told, [], record)

    def test_ordinary(self):
        self.assertEqual(culprits(NO_WORLD), [0, 1])
        self.assertEqual(culprits(RECORD), [0, 1, 2])
        self.assertEqual(culprits(EIGHT_WITHOUT_WORLD), [5, 7])
        self.assertEqual(culprits(by_letters((A, B, 0, 4), (A, B, 5, None), (A, B, 6, None))), [0])
        self.assertEqual(culprits(by_letters((C, D, 0, 4), (A, B, 5, None), (B, A, 6, None))), [1, 2])

    def test_none_alone(self):
        record = by_letters((A, B, 0, 4), (A, B, 5, None), (C, D, 0, 4), (C, D, 5, None))
        self.assertEqual(culprits(record), [])
        self.assertEqual(culprits(by_letters((A, B, 0, 4), (A, B, 5, None), (A, B, 0, 4), (A, B, 5, None))), [])

    def test_a_letter_that_no_clock_lets_by(self):
        record = (((2, 3, (5, 9, 40)),), (((0, 0), (0, 1), 9, 9), ((0, 2), (0, 0), 0, None)))
        self.assertEqual(culprits(record), [1])

    def test_as_each_that_is_tried(self):
        for record in WITHOUT_WORLD:
            told = culprits(record)
            self.list_of_rising_numbers(told)
            expected = [k for k in range(len(record[1])) if table(all_but(record, k)) is not None]
            self.assertEqual(told, expected, record)

    def test_a_new_list_each_time(self):
        for record in [FULL, RECORD, LEAST]:
            self.new_each_time(culprits, record)

    def test_no_record(self):
        for thing in NO_RECORDS:
            refuses(self, NoRecord, culprits, thing)


class Together(unittest.TestCase):
    def test_a_letter_with_both_bounds_mattering_not(self):
        for record in FEW:
            for number in needless_letters(record):
                for bound in of_letter(record, number):
                    self.assertIs(is_needless(record, bound), True, record)

    def test_clocks_stay(self):
        for record in FEW:
            self.assertEqual(least_letters(record)[0], record[0])


if __name__ == "__main__":
    unittest.main()
