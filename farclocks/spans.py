"""Spans: how long clocks truly went between readings, and letters as narrow as can be."""

from farclocks.between import least_between, most_between
from farclocks.records import LONGEST, need_number, need_record
from farclocks.worlds import need_world


def span_between(record, one, other):
    return (least_between(record, one, other), most_between(record, one, other))


def spans(record, clock):
    need_record(record)
    need_number(len(record[0]), clock)
    need_world(record)
    many = len(record[0][clock][2])
    return [span_between(record, (clock, k - 1), (clock, k)) for k in range(1, many)]


# A letter's own least bounds its events, so that there always is a least between them, and none below 0.
def narrowed_letter(record, letter):
    span = span_between(record, letter[0], letter[1])
    most = None if span[1] is None or span[1] > LONGEST else span[1]
    return (letter[0], letter[1], min(span[0], LONGEST), most)


def narrowed(record):
    need_world(record)
    return (record[0], tuple([narrowed_letter(record, letter) for letter in record[1]]))


def is_narrow(record):
    return narrowed(record) == record
