"""Records: clocks with their readings, events, and letters between events."""

from farclocks.errors import NoEvent, NoNumber, NoRecord

MOST_CLOCKS = 4
MOST_LETTERS = 8
MOST_READINGS = 4
LAST_READING = 99
SLOWEST = 9
LONGEST = 999


# Python counts truths among its ints and takes True for 1, so they are put aside first.
def is_whole(thing):
    return isinstance(thing, int) and not isinstance(thing, bool)


def is_within(thing, least, most):
    return is_whole(thing) and least <= thing <= most


def is_long(thing, least, most):
    return isinstance(thing, tuple) and least <= len(thing) <= most


def rises(numbers):
    return all([numbers[k] < numbers[k + 1] for k in range(len(numbers) - 1)])


def are_readings(thing):
    if not is_long(thing, 1, MOST_READINGS):
        return False
    return all([is_within(part, 0, LAST_READING) for part in thing]) and rises(thing)


def is_pace(slow, fast):
    return is_within(slow, 1, SLOWEST) and is_within(fast, slow, SLOWEST)


def is_clock(thing):
    return is_long(thing, 3, 3) and is_pace(thing[0], thing[1]) and are_readings(thing[2])


def are_clocks(thing):
    return is_long(thing, 1, MOST_CLOCKS) and all([is_clock(part) for part in thing])


def is_event(clocks, thing):
    if not is_long(thing, 2, 2) or not is_within(thing[0], 0, len(clocks) - 1):
        return False
    return is_within(thing[1], 0, len(clocks[thing[0]][2]) - 1)


def is_delay(least, most):
    return is_within(least, 0, LONGEST) and (most is None or is_within(most, least, LONGEST))


def is_letter(clocks, thing):
    if not is_long(thing, 4, 4) or not is_delay(thing[2], thing[3]):
        return False
    return is_event(clocks, thing[0]) and is_event(clocks, thing[1]) and thing[0] != thing[1]


def are_letters(clocks, thing):
    return is_long(thing, 0, MOST_LETTERS) and all([is_letter(clocks, part) for part in thing])


def is_record(thing):
    return is_long(thing, 2, 2) and are_clocks(thing[0]) and are_letters(thing[0], thing[1])


# The words of a refusal leave the thing out: a great number in it could not be written as a text.
def need_record(thing):
    if not is_record(thing):
        raise NoRecord("this is no record")


def need_event(record, thing):
    if not is_event(record[0], thing):
        raise NoEvent("the record has no such event")


# Clocks, letters and bounds are numbered alike, each from 0.
def need_number(many, thing):
    if not is_within(thing, 0, many - 1):
        raise NoNumber("the record has nothing with this number")


def events(record):
    need_record(record)
    told = []
    for number, clock in enumerate(record[0]):
        told.extend([(number, k) for k in range(len(clock[2]))])
    return told


def reading_of(record, event):
    need_record(record)
    need_event(record, event)
    return record[0][event[0]][2][event[1]]
