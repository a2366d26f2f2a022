"""Texts of records, and records read from them."""

from farclocks.errors import NoText
from farclocks.records import is_record, need_record


def clock_text(clock):
    readings = " ".join([str(reading) for reading in clock[2]])
    return "clock " + str(clock[0]) + "-" + str(clock[1]) + " " + readings + "\n"


def event_text(event):
    return str(event[0]) + "." + str(event[1])


def letter_text(letter):
    most = "" if letter[3] is None else str(letter[3])
    return "letter " + event_text(letter[0]) + " " + event_text(letter[1]) + " " + str(letter[2]) + "-" + most + "\n"


def record_text(record):
    need_record(record)
    clocks = [clock_text(clock) for clock in record[0]]
    letters = [letter_text(letter) for letter in record[1]]
    return "".join(clocks + letters)


def number_of(word):
    try:
        return int(word)
    except ValueError:
        return None


def numbers_between(words, sign):
    parts = words.partition(sign)
    return (number_of(parts[0]), number_of(parts[2]))


def clock_of(words):
    parts = words.partition(" ")
    readings = [number_of(word) for word in parts[2].split(" ")]
    return numbers_between(parts[0], "-") + (tuple(readings),)


def letter_of(words):
    parts = words.partition(" ")
    rest = parts[2].partition(" ")
    return (numbers_between(parts[0], "."), numbers_between(rest[0], ".")) + numbers_between(rest[2], "-")


def behind(lines, word):
    return [line.partition(" ")[2] for line in lines if line.startswith(word)]


# Whatever the lines are, they are read as if they were a writing: whether they were tells what comes of them, written.
def read_record(text):
    if not isinstance(text, str):
        raise NoText("this is no text")
    lines = text.split("\n")
    clocks = [clock_of(words) for words in behind(lines, "clock ")]
    letters = [letter_of(words) for words in behind(lines, "letter ")]
    record = (tuple(clocks), tuple(letters))
    if not is_record(record) or record_text(record) != text:
        raise NoText("this is the writing of no record")
    return record
