"""What DOC.md promises over the whole program: its points [0.2] and [0.3], and the interface."""

import importlib
import inspect
import unittest

from farclocks.between import all_most, least_between, most_between, shows, way, world_with
from farclocks.bounds import bounds, broken, is_world, of_letter
from farclocks.changes import led_together, truer, with_letter, with_reading, without_letter
from farclocks.desks import Desk
from farclocks.errors import ClockError, NoRecord
from farclocks.knowing import first_to_know, knows, stamp, unknown_pairs
from farclocks.needs import culprits, least_letters, most_kept, needless_letters, same_worlds
from farclocks.orders import an_order, fits_order, maybe_ahead, maybe_at_once, sure_pairs, surely_ahead, told_order
from farclocks.records import events, is_record
from farclocks.room import room, shows_room, tight_round
from farclocks.sketches import Sketch
from farclocks.spans import is_narrow, narrowed, spans
from farclocks.texts import read_record, record_text
from farclocks.timetexts import read_times, times_text
from farclocks.worlds import barring, bars, has_world, moved_by, world
from samples import (
    DEEPEST, EIGHT, FULL, LEAST, NAMED, NO_RECORDS, PAIR, RECORD, RECORDS, SMALL, WITH_WORLD, WITHOUT_WORLD, mosts,
    pairs, refuses, repr_of, tried_worlds,
)

# Of each file its functions, and how many things each is given.
FUNCTIONS = {
    "records": {"is_record": 1, "events": 1, "reading_of": 2},
    "bounds": {"bounds": 1, "of_letter": 2, "broken": 2, "are_times": 2, "is_world": 2},
    "worlds": {"world": 1, "barring": 1, "moved_by": 3, "has_world": 1, "bars": 2},
    "between": {"most_between": 3, "least_between": 3, "all_most": 1, "world_with": 4, "way": 3, "shows": 5},
    "orders": {"surely_ahead": 3, "maybe_ahead": 3, "maybe_at_once": 3, "fits_order": 2, "verdict": 3, "sure_pairs": 1,
               "told_order": 2, "an_order": 1},
    "needs": {"is_needless": 2, "same_worlds": 2, "needless_letters": 1, "least_letters": 1, "most_kept": 1,
              "culprits": 1},
    "room": {"room": 1, "tight_round": 1, "shows_room": 3},
    "changes": {"with_letter": 2, "without_letter": 2, "with_reading": 3, "truer": 4, "led_together": 2},
    "texts": {"record_text": 1, "read_record": 1},
    "knowing": {"knows": 2, "stamp": 2, "first_to_know": 3, "unknown_pairs": 1},
    "spans": {"spans": 2, "narrowed": 1, "is_narrow": 1},
    "timetexts": {"times_text": 2, "read_times": 2},
}
CLASSES = {
    ("desks", "Desk"): {"record": 0, "take": 1, "read": 2, "drop": 1, "undo": 0, "many": 0},
    ("sketches", "Sketch"): {"write": 1, "read": 2, "cut": 1, "record": 0, "good": 0, "back": 0, "forth": 0,
                             "counts": 0, "twin": 0},
}
REFUSALS = ["NoRecord", "NoEvent", "NoNumber", "NoWorld", "Barred", "Nothing", "NoText"]

# Those that take no record first.
OTHERS = ["is_record", "read_record"]


def called(file, name):
    return getattr(importlib.import_module("farclocks." + file), name)


def given(function):
    return list(inspect.signature(function).parameters.values())


class Interface(unittest.TestCase):
    def takes(self, function, many):
        self.assertEqual([one.kind for one in given(function)], [inspect.Parameter.POSITIONAL_OR_KEYWORD] * many)
        self.assertTrue(all(one.default is inspect.Parameter.empty for one in given(function)))

    def test_functions(self):
        for file, names in FUNCTIONS.items():
            for name, many in names.items():
                self.takes(called(file, name), many)

    def test_classes(self):
        for (file, name), methods in CLASSES.items():
            kind = called(file, name)
            self.assertIsInstance(kind, type)
            self.takes(kind, 1)
            for method, many in methods.items():
                self.takes(getattr(kind(LEAST), method), many)

    def test_refusals(self):
        for name in REFUSALS:
            self.assertEqual(called("errors", name).__bases__, (ClockError,))
        self.assertEqual(ClockError.__bases__, (ValueError,))

    def test_what_is_no_record_is_refused_ahead_of_all(self):
        for file, names in FUNCTIONS.items():
            for name, many in names.items():
                if name not in OTHERS:
                    for thing in NO_RECORDS:
                        refuses(self, NoRecord, called(file, name), thing, *[None] * (many - 1))

    def test_truths(self):
        things = {"is_record": [LEAST], "are_times": [LEAST, (0,)], "is_world": [LEAST, (0,)], "has_world": [LEAST],
                  "bars": [PAIR, [0]], "shows": [LEAST, (0, 0), (0, 0), 0, []], "surely_ahead": [PAIR, (0, 0), (0, 1)],
                  "maybe_ahead": [PAIR, (0, 0), (0, 1)], "maybe_at_once": [PAIR, (0, 0), (0, 1)],
                  "fits_order": [LEAST, [(0, 0)]], "is_needless": [PAIR, 0], "same_worlds": [LEAST, LEAST],
                  "shows_room": [PAIR, (0, 1), [2, 3]], "is_narrow": [LEAST]}
        told = 0
        for file, names in FUNCTIONS.items():
            for name in names:
                if name in things:
                    self.assertIs(type(called(file, name)(*things[name])), bool, name)
                    told += 1
        self.assertEqual(told, len(things))


class ForAllRecords(unittest.TestCase):
    def test_a_world_or_a_round_that_bars_it(self):
        for record in RECORDS:
            self.assertNotEqual(world(record) is None, barring(record) is None)
            if has_world(record):
                self.assertIs(is_world(record, world(record)), True)
            else:
                self.assertIs(bars(record, barring(record)), True)

    def test_what_is_told_between_two_events(self):
        for record in WITH_WORLD[::4]:
            for one, other in pairs(record):
                least, most = least_between(record, one, other), most_between(record, one, other)
                if most is not None:
                    self.assertIs(shows(record, one, other, most, way(record, one, other)), True)
                    self.assertIs(is_world(record, world_with(record, one, other, most)), True)
                    self.assertIsNone(world_with(record, one, other, most + 1))
                if least is not None:
                    self.assertIs(is_world(record, world_with(record, one, other, least)), True)
                    self.assertIsNone(world_with(record, one, other, least - 1))

    def test_what_is_surely_and_maybe_ahead(self):
        for record in SMALL[::4]:
            tried = tried_worlds(record, DEEPEST)
            places = events(record)
            for one, other in pairs(record) if tried else []:
                apart = [times[places.index(other)] - times[places.index(one)] for times in tried]
                self.assertIs(surely_ahead(record, one, other), min(apart) > 0)
                self.assertIs(maybe_ahead(record, one, other), max(apart) > 0)
                self.assertIs(maybe_at_once(record, one, other), 0 in apart)

    def test_being_surely_ahead_leads_on(self):
        for record in WITH_WORLD:
            sure = set(sure_pairs(record))
            self.assertEqual([(one, far) for one, over in sure for other, far in sure
                              if over == other and (one, far) not in sure], [])

    def test_letters_that_do_not_matter_and_letters_more(self):
        for record in WITH_WORLD[::4]:
            for number in range(len(record[1])):
                less = without_letter(record, number)
                self.assertIs(same_worlds(less, record), number in needless_letters(record))
                self.assertIs(is_world(less, world(record)), True)
            self.assertIs(same_worlds(least_letters(record), record), True)

    def test_the_room(self):
        for record in RECORDS:
            told = room(record)
            if told is None:
                self.assertIsNone(tight_round(record))
                continue
            self.assertIs(shows_room(record, told, tight_round(record)), True)
            for up, down, holds in [(told[0], told[1], True), (told[0] * 100 + 1, told[1] * 100, False)]:
                less = [(one, other, most * down - up) for one, other, most in bounds(record)]
                self.assertIs(mosts(events(record), less) is not None, holds)

    def test_desks_and_texts(self):
        for record in RECORDS:
            self.assertEqual(read_record(record_text(record)), record)
        for record in WITH_WORLD:
            desk = Desk(record)
            for letter in EIGHT[1] + RECORD[1] + PAIR[1]:
                try:
                    desk.take(letter)
                except ClockError:
                    pass
                self.assertIs(has_world(desk.record()), True)

    def test_what_an_event_knows(self):
        for record in RECORDS[::2]:
            for event in events(record):
                for other in knows(record, event):
                    self.assertLessEqual(set(knows(record, other)), set(knows(record, event)))
                    if has_world(record):
                        self.assertLessEqual(most_between(record, event, other), 0)

    def test_narrowed_letters(self):
        for record in WITH_WORLD:
            self.assertIs(same_worlds(narrowed(record), record), True)
            self.assertIs(is_narrow(narrowed(record)), True)

    def test_sketches(self):
        for record in RECORDS:
            sketch, past, told = Sketch(record), [record], []
            for number in range(len(record[1]) - 1, -1, -1):
                told.append(sketch.cut(number))
                past.append(sketch.record())
            self.assertEqual(told, [has_world(one) for one in past[1:]])
            for one in past[-2::-1]:
                self.assertEqual((sketch.back(), sketch.record()), ("cut", one))
            for one in past[1:]:
                self.assertEqual((sketch.forth(), sketch.record()), ("cut", one))

    def test_texts_of_times(self):
        for record in WITH_WORLD:
            for times in [world(record), moved_by(record, world(record), 1000)]:
                self.assertEqual(read_times(record, times_text(record, times)), times)


class ToldLists(unittest.TestCase):
    def calls(self, record):
        """All that tells a list of this record, and things of its kind."""
        told = [lambda: events(record), lambda: bounds(record), lambda: tight_round(record), lambda: barring(record),
                lambda: broken(record, (0,) * len(events(record))), lambda: most_kept(record), lambda: culprits(record),
                lambda: told_order(record, (0,) * len(events(record))), lambda: an_order(record),
                lambda: unknown_pairs(record)]
        told += [lambda number=number: of_letter(record, number) for number in range(len(record[1]))]
        told += [lambda event=event: knows(record, event) for event in events(record)]
        if has_world(record):
            told += [lambda: sure_pairs(record), lambda: needless_letters(record)]
            told += [lambda number=number: spans(record, number) for number in range(len(record[0]))]
            told += [lambda one=one, other=other: way(record, one, other) for one, other in pairs(record)]
        return told

    def test_changed_by_who_got_them(self):
        for record in NAMED:
            for call in self.calls(record):
                first, second = call(), call()
                if first is None:
                    continue
                self.assertIs(type(first), list)
                self.assertIsNot(first, second)
                before = repr_of(second)
                first.append(None)
                first.reverse()
                second.clear()
                self.assertEqual(repr_of(call()), before)

    def test_all_else_is_made_of_tuples_and_whole_numbers(self):
        for record in WITH_WORLD[:40]:
            event = events(record)[-1]
            for told in [world(record), all_most(record), least_letters(record), narrowed(record), stamp(record, event),
                         truer(record, 0, 3, 4), led_together(record, record), Desk(record).record(),
                         Sketch(record).record(), Sketch(record).good(), Sketch(record).counts(),
                         first_to_know(record, event, event[0])]:
                hash(told)
                self.assertIs(type(told), tuple)

    def test_what_refuses_tells_one_of_the_refusals(self):
        for record in WITHOUT_WORLD:
            for call in [all_most, sure_pairs, needless_letters, least_letters, narrowed, is_narrow, Desk]:
                with self.assertRaises(ClockError):
                    call(record)

    def test_orders_of_worlds_fit(self):
        for record in WITH_WORLD[::5]:
            self.assertIs(fits_order(record, an_order(record)), True)
            self.assertIs(fits_order(record, told_order(record, world(record))), True)

    def test_changes_are_records(self):
        for record in [LEAST, PAIR, RECORD]:
            self.assertIs(is_record(with_reading(record, 0, 98)), True)
        self.assertIs(is_record(with_letter(PAIR, ((0, 0), (0, 1), 0, None))), True)
        self.assertIs(is_record(without_letter(FULL, 7)), True)


if __name__ == "__main__":
    unittest.main()
