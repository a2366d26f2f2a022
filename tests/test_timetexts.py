import re
import unittest

from farclocks.bounds import are_times
from farclocks.errors import NoNumber, NoRecord, NoText
from farclocks.records import events, reading_of
from farclocks.timetexts import read_times, times_text
from farclocks.worlds import world
from samples import (
    CLOCKS, Draw, FULL, LEAST, NO_RECORDS, NO_WORLD, ODD, PAIR, RECORD, RECORDS, WITH_WORLD, by_letters,
    leaves_unchanged, refuses, repr_of, with_clock,
)

SIGNS = [chr(number) for number in range(ord(" "), ord("~") + 1)] + ["\n"]
FAR = 999999999

TWO = with_clock((2, 3, (5, 9)))


def form_of(record):
    """What a text of times of a record looks like, each time in brackets."""
    lines = []
    for number, clock in enumerate(record[0]):
        parts = [rf"{reading} at (0|-?[1-9][0-9]{{0,8}})" for reading in clock[2]]
        lines.append(f"{number}: " + ", ".join(parts) + "\n")
    return re.compile("".join(lines))


def read_by_form(record, text):
    found = form_of(record).fullmatch(text)
    return None if found is None else tuple(int(part) for part in found.groups())


def some_times(record, seed):
    draw = Draw(seed)
    told = []
    for _ in events(record):
        far = [0, 1, 9, 10, 999, FAR - 1, FAR][draw.upto(0, 6)]
        told.append(draw.upto(-1, 1) * far)
    return tuple(told)


class TimesText(unittest.TestCase):
    def test_as_the_document_writes_them(self):
        self.assertEqual(times_text(TWO, (-12, 0)), "0: 5 at -12, 9 at 0\n")

    def test_ordinary(self):
        self.assertEqual(times_text(PAIR, (0, 20, 2, 5)), "0: 0 at 0, 10 at 20\n1: 4 at 2, 7 at 5\n")
        self.assertEqual(times_text(LEAST, (7,)), "0: 0 at 7\n")
        self.assertEqual(
            times_text((CLOCKS, ()), (1, -2, 30, -400, 0, 10, -10, 99)),
            "0: 5 at 1, 9 at -2, 40 at 30\n1: 0 at -400\n2: 0 at 0, 1 at 10, 98 at -10, 99 at 99\n",
        )

    def test_times_need_be_no_world(self):
        self.assertEqual(times_text(TWO, (12, -12)), "0: 5 at 12, 9 at -12\n")
        self.assertEqual(times_text(NO_WORLD, (0, 0, 0, 0)), "0: 0 at 0\n1: 0 at 0\n2: 0 at 0\n3: 0 at 0\n")

    def test_the_greatest_record(self):
        self.assertEqual(times_text(FULL, tuple(range(-8, 8))), (
            "0: 96 at -8, 97 at -7, 98 at -6, 99 at -5\n1: 96 at -4, 97 at -3, 98 at -2, 99 at -1\n"
            "2: 96 at 0, 97 at 1, 98 at 2, 99 at 3\n3: 96 at 4, 97 at 5, 98 at 6, 99 at 7\n"
        ))

    def test_the_farthest(self):
        self.assertEqual(times_text(TWO, (-FAR, FAR)), "0: 5 at -999999999, 9 at 999999999\n")
        for time in [FAR + 1, -FAR - 1, 10 ** 30, -10 ** 30, 10 ** 5000, -10 ** 5000]:
            refuses(self, NoNumber, times_text, TWO, (time, 0))
            refuses(self, NoNumber, times_text, TWO, (0, time))
            refuses(self, NoNumber, times_text, LEAST, (time,))

    def test_what_are_no_times(self):
        for thing in ODD + [
            [0, 0], (0,), (0, 0, 0), (0, None), (None, 0), (True, 0), (0, False), ("0", 0), (0, (0,)), ((0, 0),), 0,
            "00", [(0, 0)], (0, [0]),
        ]:
            refuses(self, NoNumber, times_text, TWO, thing)

    def test_each_part_of_each_record(self):
        for seed, record in enumerate(RECORDS):
            times = some_times(record, seed)
            lines = [[] for clock in record[0]]
            for event, time in zip(events(record), times):
                lines[event[0]].append(f"{reading_of(record, event)} at {time}")
            expected = "".join(f"{number}: {', '.join(parts)}\n" for number, parts in enumerate(lines))
            self.assertEqual(repr_of(times_text(record, times)), repr_of(expected))

    def test_no_record_comes_first(self):
        for thing in NO_RECORDS:
            for times in [(0,), (), None, (FAR + 1,), thing]:
                refuses(self, NoRecord, times_text, thing, times)

    def test_nothing_is_changed(self):
        for times in [[0, 0], [[None]], []]:
            leaves_unchanged(self, [TWO, times], lambda *things: refuses(self, NoNumber, times_text, *things))


class ReadTimes(unittest.TestCase):
    def read(self, record, text):
        """What is read, or None if it is refused; the case fails if it is not as the form of the text tells."""
        expected = read_by_form(record, text)
        if expected is None:
            refuses(self, NoText, read_times, record, text)
        else:
            self.assertEqual(repr_of(read_times(record, text)), repr_of(expected), text)
        return expected

    def test_texts_read_back(self):
        for seed, record in enumerate(RECORDS):
            for k in range(3):
                times = some_times(record, seed + 1000 * k)
                self.assertIs(are_times(record, times), True)
                self.assertEqual(repr_of(read_times(record, times_text(record, times))), repr_of(times))
                self.assertEqual(self.read(record, times_text(record, times)), times)

    def test_worlds_read_back(self):
        for record in WITH_WORLD:
            self.assertEqual(read_times(record, times_text(record, world(record))), world(record))

    def test_ordinary(self):
        self.assertEqual(read_times(TWO, "0: 5 at -12, 9 at 0\n"), (-12, 0))
        self.assertEqual(read_times(PAIR, "0: 0 at 0, 10 at 20\n1: 4 at 2, 7 at 5\n"), (0, 20, 2, 5))
        self.assertEqual(read_times(NO_WORLD, "0: 0 at 0\n1: 0 at 1\n2: 0 at 2\n3: 0 at 3\n"), (0, 1, 2, 3))

    def test_one_sign_more_less_or_another(self):
        read = 0
        for record, times in [
            (TWO, (-12, 0)), (LEAST, (7,)), (PAIR, (0, 20, -205, FAR)), (RECORD, tuple(range(-4, 4))),
        ]:
            text = times_text(record, times)
            for place in range(len(text) + 1):
                others = [text[:place] + text[place + 1:]]
                others += [text[:place] + sign + text[place + 1:] for sign in SIGNS]
                others += [text[:place] + sign + text[place:] for sign in SIGNS]
                for other in others:
                    if self.read(record, other) is not None:
                        read += 1
                        self.assertEqual(times_text(record, read_times(record, other)), other)
        self.assertGreater(read, 200)

    def test_two_signs_in_each_others_place(self):
        text = times_text(PAIR, (0, 20, -205, FAR))
        for place in range(len(text) - 1):
            self.read(PAIR, text[:place] + text[place + 1] + text[place] + text[place + 2:])

    def test_figures(self):
        for figures in ["-0", "00", "01", "-01", "+1", "--1", "- 1", "1_0", "1.0", "1e1", "0x1", "", "-", "one", "None",
                        "1000000000", "-1000000000", "0999999999", "9" * 400, "9" * 5000, "-" + "9" * 5000, "1,0"]:
            refuses(self, NoText, read_times, TWO, "0: 5 at " + figures + ", 9 at 0\n")
            refuses(self, NoText, read_times, TWO, "0: 5 at 0, 9 at " + figures + "\n")
            refuses(self, NoText, read_times, LEAST, "0: 0 at " + figures + "\n")
        for figures in ["0", "-1", "1", "-999999999", "999999999", "100", "-10"]:
            self.assertEqual(self.read(TWO, "0: 5 at " + figures + ", 9 at 0\n"), (int(figures), 0))

    def test_words_and_blanks(self):
        for text in [
            " 0: 5 at 1, 9 at 2\n", "0:5 at 1, 9 at 2\n", "0 : 5 at 1, 9 at 2\n", "0:  5 at 1, 9 at 2\n",
            "0: 5at 1, 9 at 2\n", "0: 5 at1, 9 at 2\n", "0: 5  at 1, 9 at 2\n", "0: 5 at  1, 9 at 2\n",
            "0: 5 at 1,9 at 2\n", "0: 5 at 1 , 9 at 2\n", "0: 5 at 1,  9 at 2\n", "0: 5 at 1, 9 at 2 \n",
            "0: 5 At 1, 9 at 2\n", "0: 5 to 1, 9 at 2\n", "0: 5 at 1; 9 at 2\n", "0. 5 at 1, 9 at 2\n",
            "5 at 1, 9 at 2\n", "0: 1, 2\n", "0: 5 at 1, 9 at 2,\n", "0: 5 at 1, 9 at 2, \n", "0: , 5 at 1, 9 at 2\n",
            "0: 5 at 1, 9 at at 2\n", "0: 5 at 1 at 1, 9 at 2\n", "0: at 1, at 2\n",
        ]:
            self.assertIsNone(self.read(TWO, text), text)

    def test_line_feeds(self):
        line = "0: 5 at 1, 9 at 2"
        for text in ["", "\n", line, line + "\n\n", "\n" + line + "\n", "0: 5 at 1\n9 at 2\n", "0: 5 at 1, \n9 at 2\n",
                     "0: 5 at 1\n0: 9 at 2\n", "0:\n5 at 1, 9 at 2\n", line + ", "]:
            self.assertIsNone(self.read(TWO, text), text)

    def test_other_readings_and_clocks(self):
        for text in [
            "0: 5 at 1, 8 at 2\n", "0: 6 at 1, 9 at 2\n", "0: 9 at 1, 5 at 2\n", "0: 5 at 1\n", "0: 9 at 2\n", "0: \n",
            "0: 5 at 1, 9 at 2, 40 at 3\n", "1: 5 at 1, 9 at 2\n", "00: 5 at 1, 9 at 2\n", "-0: 5 at 1, 9 at 2\n",
            "0: 05 at 1, 9 at 2\n", "0: 5 at 1, 09 at 2\n", "0: 5 at 1, 9 at 2\n1: 5 at 1, 9 at 2\n",
        ]:
            self.assertIsNone(self.read(TWO, text), text)

    def test_lines_left_out_twice_and_in_another_order(self):
        first, second = "0: 0 at 0, 10 at 20\n", "1: 4 at 2, 7 at 5\n"
        for text in [first, second, second + first, first + first + second, first + second + second, first + first,
                     first + second + "2: 0 at 0\n", first + "\n" + second]:
            self.assertIsNone(self.read(PAIR, text), text)
        self.assertIsNotNone(self.read(PAIR, first + second))
        for text in ["0: 0 at 1, 1: 0 at 2\n2: 0 at 3\n3: 0 at 4\n", "0: 0 at 1\n1: 0 at 2\n2: 0 at 3, 3: 0 at 4\n"]:
            self.assertIsNone(self.read(by_letters(), text), text)

    def test_times_of_another_record(self):
        text = times_text(PAIR, (0, 20, 2, 5))
        for record in [LEAST, TWO, RECORD, FULL, with_clock((2, 3, (0, 10))), (PAIR[0][::-1], ())]:
            self.assertIsNone(self.read(record, text))
        self.assertEqual(read_times((((9, 9, (0, 10)), (1, 9, (4, 7))), ()), text), (0, 20, 2, 5))

    def test_what_is_no_text(self):
        for thing in ODD + [(0, 0), [0, 0], ["0: 5 at 1, 9 at 2\n"]]:
            refuses(self, NoText, read_times, TWO, thing)

    def test_no_record_comes_first(self):
        for thing in NO_RECORDS:
            for text in ["0: 0 at 0\n", "", None, thing]:
                refuses(self, NoRecord, read_times, thing, text)


if __name__ == "__main__":
    unittest.main()
