import re
import unittest

from farclocks.errors import NoRecord, NoText
from farclocks.records import is_record
from farclocks.texts import read_record, record_text
from samples import (
    A, B, EIGHT, FULL, LEAST, NO_RECORDS, NO_WORLD, ODD, PAIR, RECORD, RECORDS, by_letters, leaves_unchanged, refuses,
    repr_of, with_clock,
)

SIGNS = [chr(number) for number in range(ord(" "), ord("~") + 1)] + ["\n"]

NUMBER = r"(0|[1-9][0-9]*)"
CLOCK = re.compile(rf"clock {NUMBER}-{NUMBER}((?: {NUMBER})+)")
LETTER = re.compile(rf"letter {NUMBER}\.{NUMBER} {NUMBER}\.{NUMBER} {NUMBER}-{NUMBER}?")

SAMPLE = (
    "clock 2-3 5 9 40\nclock 1-1 0\nclock 1-9 0 1 98 99\n"
    "letter 0.1 2.0 5-30\nletter 2.0 1.0 0-\nletter 1.0 0.0 999-999\n"
)


def clock_by_form(line):
    found = CLOCK.fullmatch(line)
    return found and (int(found[1]), int(found[2]), tuple(int(word) for word in found[3].split()))


def letter_by_form(line):
    found = LETTER.fullmatch(line)
    if not found:
        return None
    numbers = [part and int(part) for part in found.groups()]
    return ((numbers[0], numbers[1]), (numbers[2], numbers[3]), numbers[4], numbers[5])


def read_by_form(text):
    """The record that a text writes, by the forms of its lines, or None."""
    if not text.endswith("\n"):
        return None
    lines = text[:-1].split("\n")
    many = len([line for line in lines if line.startswith("clock")])
    clocks = [clock_by_form(line) for line in lines[:many]]
    letters = [letter_by_form(line) for line in lines[many:]]
    record = (tuple(clocks), tuple(letters))
    return record if is_record(record) else None


class RecordText(unittest.TestCase):
    def test_ordinary(self):
        self.assertEqual(record_text(RECORD), SAMPLE)
        self.assertEqual(record_text(PAIR), "clock 2-3 0 10\nclock 1-1 4 7\nletter 0.0 1.1 5-8\n")

    def test_as_the_document_writes_them(self):
        clocks = ((2, 3, (5, 9, 40)), (1, 1, (0,)), (1, 1, (7,)))
        letters = (((0, 1), (2, 0), 5, 30),)
        text = "clock 2-3 5 9 40\nclock 1-1 0\nclock 1-1 7\nletter 0.1 2.0 5-30\n"
        self.assertEqual(record_text((clocks, letters)), text)

    def test_the_least_one(self):
        self.assertEqual(record_text(LEAST), "clock 1-1 0\n")

    def test_the_greatest_one(self):
        self.assertEqual(record_text(FULL), "clock 9-9 96 97 98 99\n" * 4 + "letter 0.0 3.3 999-\n" * 8)

    def test_with_a_most_and_without_one(self):
        for least, most, words in [
            (0, None, "0-"), (0, 0, "0-0"), (5, None, "5-"), (999, 999, "999-999"), (10, 100, "10-100"),
        ]:
            text = "clock 1-1 0\n" * 4 + "letter 0.0 1.0 " + words + "\n"
            self.assertEqual(record_text(by_letters((A, B, least, most))), text)

    def test_one_without_a_world(self):
        self.assertEqual(record_text(NO_WORLD), "clock 1-1 0\n" * 4 + "letter 0.0 1.0 5-8\nletter 1.0 0.0 0-\n")

    def test_each_text_is_another(self):
        texts = {record_text(record) for record in RECORDS}
        self.assertEqual(len(texts), len(set(RECORDS)))
        self.assertEqual({type(text) for text in texts}, {str})

    def test_no_record(self):
        for thing in NO_RECORDS:
            refuses(self, NoRecord, record_text, thing)


class ReadRecord(unittest.TestCase):
    def read(self, text):
        """What is read, or NoText; the case fails if it is not as the forms of the lines tell."""
        expected = read_by_form(text)
        if expected is None:
            refuses(self, NoText, read_record, text)
        else:
            self.assertEqual(repr_of(read_record(text)), repr_of(expected), text)
        return expected

    def test_texts_read_back(self):
        for record in RECORDS:
            text = record_text(record)
            self.assertEqual(repr_of(read_record(text)), repr_of(record))
            self.assertEqual(self.read(text), record)

    def test_ordinary(self):
        self.assertEqual(read_record(SAMPLE), RECORD)
        self.assertEqual(read_record("clock 1-1 0\n"), LEAST)

    def test_one_sign_more_less_or_another(self):
        read = 0
        back = by_letters((A, B, 0, None), (B, A, 10, 20))
        for text in [SAMPLE, "clock 1-1 0\n", record_text(PAIR), record_text(back)]:
            for place in range(len(text) + 1):
                others = [text[:place] + text[place + 1:]]
                others += [text[:place] + sign + text[place + 1:] for sign in SIGNS]
                others += [text[:place] + sign + text[place:] for sign in SIGNS]
                for other in others:
                    if self.read(other) is not None:
                        read += 1
                        self.assertEqual(record_text(read_record(other)), other)
        self.assertGreater(read, 200)

    def test_two_signs_in_each_others_place(self):
        for text in [SAMPLE, record_text(PAIR)]:
            for place in range(len(text) - 1):
                self.read(text[:place] + text[place + 1] + text[place] + text[place + 2:])

    def test_lines_left_out_twice_and_in_another_order(self):
        lines = SAMPLE.split("\n")[:-1]
        for k in range(len(lines)):
            self.read("\n".join(lines[:k] + lines[k + 1:]) + "\n")
            self.read("\n".join(lines[:k] + lines[k:k + 1] + lines[k:]) + "\n")
            for j in range(len(lines)):
                others = lines[:k] + lines[k + 1:]
                self.read("\n".join(others[:j] + [lines[k]] + others[j:]) + "\n")
        refuses(self, NoText, read_record, "letter 0.0 1.0 0-\nclock 1-1 0\nclock 1-1 0\n")
        refuses(self, NoText, read_record, "clock 1-1 0\nletter 0.0 1.0 0-\nclock 1-1 0\n")

    def test_blanks(self):
        for text in [
            " clock 1-1 0\n", "clock  1-1 0\n", "clock 1 -1 0\n", "clock 1- 1 0\n", "clock 1-1  0\n", "clock 1-1 0 \n",
            "clock1-1 0\n", "clock 1-10\n", "clock 1-1\n", "clock 1-1 \n", "clock\n", "clock \n", "clock 0\n",
        ]:
            self.assertIsNone(self.read(text), text)

    def test_line_feeds(self):
        line = "clock 1-1 0"
        for text in ["", "\n", "\n\n", line, line + "\n\n", "\n" + line + "\n", line + "\n\n" + line + "\n"]:
            self.assertIsNone(self.read(text), text)

    def test_noughts_ahead_and_signs_of_numbers(self):
        clocks = "clock 1-1 0 5\n"
        for text in ["clock 01-1 0\n", "clock 1-01 0\n", "clock 1-1 00\n", "clock 1-1 05\n", "clock +1-1 0\n",
                     "clock 1-+1 0\n", "clock 1-1 +5\n", "clock 1-1 -0\n", "clock 1-1 1_0\n", "clock 1-1 5.0\n",
                     "clock 1--1 5\n", "clock -1-1 5\n", "clock 1-1 5e1\n", "clock 1-1 0x5\n"]:
            self.assertIsNone(self.read(text), text)
        for letter in ["0.00 0.1 5-6", "00.0 0.1 5-6", "0.0 0.01 5-6", "0.0 0.1 05-6", "0.0 0.1 5-06", "0.0 0.1 00-6",
                       "0.0 0.1 +5-6", "0.0 0.1 5-+6", "0.0 0.1 -5-6", "0.0 0.1 5--6", "0.-0 0.1 5-6", "-0.0 0.1 5-6",
                       "0.0 0.1 5_0-60"]:
            self.assertIsNone(self.read(clocks + "letter " + letter + "\n"), letter)

    def test_words(self):
        for text in ["Clock 1-1 0\n", "clocks 1-1 0\n", "cloc 1-1 0\n", "1-1 0\n", "clock 1:1 0\n", "clock a-1 0\n",
                     "clock 1-1 0,1\n", "clock 1-1-1 0\n", "clock 1 1 0\n", "clock - 0\n", "clock 1- 0\n",
                     "clock -1 0\n"]:
            self.assertIsNone(self.read(text), text)
        for letter in ["letter", "letter ", "letter 0.0", "letter 0.0 0.1", "letter 0.0 0.1 ", "letter 0.0 0.1 5",
                       "letter 0.0 0.1 -", "letter 0.0 0.1 -5", "letter 0.0 0.1 5-6-7", "letter 0.0 0.1 5-6 7",
                       "letter 0.0 0.1 5-None", "letter 0.0 0.1 5-x", "letter 0 0.1 5-6", "letter 0.0.0 0.1 5-6",
                       "letter 0-0 0.1 5-6", "letter . 0.1 5-6", "letter 0.0 0.1 5- ", "Letter 0.0 0.1 5-6",
                       "letters 0.0 0.1 5-6", "later 0.0 0.1 5-6"]:
            self.assertIsNone(self.read("clock 1-1 0 5\n" + letter + "\n"), letter)

    def test_beyond_what_a_record_has(self):
        for text in [
            "clock 0-1 0\n", "clock 1-10 0\n", "clock 2-1 0\n", "clock 1-1 100\n", "clock 1-1 5 5\n", "clock 1-1 5 4\n",
            "clock 1-1 0 1 2 3 4\n", "clock 1-1 0\n" * 5, "clock 1-1 " + "9" * 400 + "\n",
        ]:
            self.assertIsNone(self.read(text), text)
        refuses(self, NoText, read_record, "clock 1-1 " + "9" * 5000 + "\n")
        clocks = "clock 1-1 0 5\nclock 1-1 0\n"
        for letter in ["0.0 0.0 5-6", "0.0 0.2 5-6", "2.0 0.0 5-6", "0.0 1.1 5-6", "0.0 1.0 6-5", "0.0 1.0 0-1000",
                       "0.0 1.0 1000-", "0.0 1.0 1000-1000"]:
            self.assertIsNone(self.read(clocks + "letter " + letter + "\n"), letter)
        good = "letter 0.0 1.0 0-\n"
        self.assertIsNotNone(self.read(clocks + good * 8))
        self.assertIsNone(self.read(clocks + good * 9))
        self.assertIsNone(self.read(good))

    def test_edges_of_what_a_record_has(self):
        for text in [
            "clock 1-9 0 1 98 99\n", "clock 9-9 99\n", "clock 1-1 0\n" * 4, record_text(EIGHT), record_text(FULL),
            "clock 1-1 0 5\nletter 0.1 0.0 0-0\n", "clock 1-1 0 5\nletter 0.0 0.1 999-999\n",
        ]:
            self.assertIsNotNone(self.read(text), text)

    def test_other_texts(self):
        for text in ["0", "clock", "None", "(((1, 1, (0,)),), ())", "~", "!" * 99]:
            self.assertIsNone(self.read(text))

    def test_what_is_no_text(self):
        for thing in ODD + [RECORD, [SAMPLE], (SAMPLE,)]:
            refuses(self, NoText, read_record, thing)

    def test_a_record_read_twice(self):
        self.assertEqual(read_record(SAMPLE), read_record(SAMPLE))
        leaves_unchanged(self, [RECORD], record_text)

    def test_without_a_world(self):
        self.assertEqual(read_record(record_text(NO_WORLD)), NO_WORLD)

    def test_readings_of_all_lengths(self):
        for readings in [(0,), (9, 10), (0, 50, 99), (1, 2, 3, 4), (99,)]:
            record = with_clock((4, 6, readings))
            self.assertEqual(self.read("clock 4-6 " + " ".join(str(reading) for reading in readings) + "\n"), record)


if __name__ == "__main__":
    unittest.main()
