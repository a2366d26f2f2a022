"""Changes: records with more, or less, each told as a record of its own."""

from farclocks.errors import NoRecord
from farclocks.records import need_number, need_record


def if_record(thing):
    need_record(thing)
    return thing


def with_letter(record, letter):
    need_record(record)
    return if_record((record[0], record[1] + (letter,)))


def without_letter(record, number):
    need_record(record)
    letters = record[1]
    need_number(len(letters), number)
    return (record[0], letters[:number] + letters[number + 1:])


def with_clock(record, number, clock):
    clocks = record[0]
    return if_record((clocks[:number] + (clock,) + clocks[number + 1:], record[1]))


def with_reading(record, clock, reading):
    need_record(record)
    need_number(len(record[0]), clock)
    old = record[0][clock]
    return with_clock(record, clock, (old[0], old[1], old[2] + (reading,)))


def truer(record, clock, slow, fast):
    need_record(record)
    need_number(len(record[0]), clock)
    return with_clock(record, clock, (slow, fast, record[0][clock][2]))


def led_together(one, other):
    need_record(one)
    need_record(other)
    if one[0] != other[0]:
        raise NoRecord("the clocks of these records are unlike")
    more = [letter for letter in other[1] if letter not in one[1]]
    return if_record((one[0], one[1] + tuple(more)))
