"""Texts of times, and times read from them."""

from farclocks.bounds import are_times
from farclocks.errors import NoNumber, NoText
from farclocks.records import events, is_within, need_record, reading_of
from farclocks.texts import number_of

FARTHEST = 999999999


def can_be_written(record, thing):
    return are_times(record, thing) and all([is_within(time, -FARTHEST, FARTHEST) for time in thing])


def line_text(record, number, time_of):
    places = [event for event in events(record) if event[0] == number]
    parts = [str(reading_of(record, event)) + " at " + str(time_of[event]) for event in places]
    return str(number) + ": " + ", ".join(parts) + "\n"


def times_text(record, times):
    if not can_be_written(record, times):
        raise NoNumber("these are no times, or some lie too far out")
    time_of = dict(zip(events(record), times))
    return "".join([line_text(record, number, time_of) for number in range(len(record[0]))])


# Whatever the text is, it is read as if it were a writing, each line as it ends and each part behind its word; whether
# it was tells what comes of it, written.
def read_times(record, text):
    need_record(record)
    if not isinstance(text, str):
        raise NoText("this is no text")
    parts = text.replace("\n", ", ").split(", ")[:-1]
    times = tuple([number_of(part.partition(" at ")[2]) for part in parts])
    if not can_be_written(record, times) or times_text(record, times) != text:
        raise NoText("this is the writing of no times of the record")
    return times
