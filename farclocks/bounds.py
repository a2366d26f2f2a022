"""Bounds: how much later one event may be than another, and which times keep to that."""

from farclocks.records import events, is_long, is_whole, need_number, need_record


def bounds_of_clock(number, clock):
    readings = clock[2]
    told = []
    for k in range(len(readings) - 1):
        first = (number, k)
        second = (number, k + 1)
        steps = readings[k + 1] - readings[k]
        told.append((first, second, steps * clock[1]))
        told.append((second, first, -steps * clock[0]))
    return told


# A least is told by a most the other way round: back from the other end it is no more than less the least.
def bounds_of_letter(letter):
    told = [(letter[1], letter[0], -letter[2])]
    if letter[3] is not None:
        told.append((letter[0], letter[1], letter[3]))
    return told


def bounds(record):
    need_record(record)
    told = []
    for number, clock in enumerate(record[0]):
        told.extend(bounds_of_clock(number, clock))
    for letter in record[1]:
        told.extend(bounds_of_letter(letter))
    return told


def of_letter(record, number):
    need_record(record)
    letters = record[1]
    need_number(len(letters), number)
    start = len(bounds((record[0], letters[:number])))
    return list(range(start, start + len(bounds_of_letter(letters[number]))))


def are_times(record, thing):
    many = len(events(record))
    return is_long(thing, many, many) and all([is_whole(part) for part in thing])


def holds(bound, time_of):
    return time_of[bound[1]] - time_of[bound[0]] <= bound[2]


def broken(record, times):
    time_of = dict(zip(events(record), times))
    return [number for number, bound in enumerate(bounds(record)) if not holds(bound, time_of)]


def is_world(record, thing):
    return are_times(record, thing) and broken(record, thing) == []
