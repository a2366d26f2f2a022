"""Orders: which event is ahead of which, surely or maybe, and which orders of all events can be."""

from farclocks.between import all_most, least_between, most_between
from farclocks.bounds import bounds
from farclocks.records import events, need_event, need_record
from farclocks.worlds import greatest_world, world


def surely_ahead(record, one, other):
    least = least_between(record, one, other)
    return least is not None and least > 0


def maybe_ahead(record, one, other):
    most = most_between(record, one, other)
    return most is None or most > 0


# Between the least and the most every whole number is there in some world, so 0 is, if neither is surely ahead.
def maybe_at_once(record, one, other):
    return not surely_ahead(record, one, other) and not surely_ahead(record, other, one)


def verdict(record, one, other):
    if surely_ahead(record, one, other):
        return "ahead"
    if surely_ahead(record, other, one):
        return "behind"
    if maybe_ahead(record, one, other) or maybe_ahead(record, other, one):
        return "open"
    return "at once"


def sure_pairs(record):
    most = all_most(record)
    places = events(record)
    told = []
    for k, one in enumerate(places):
        for j, other in enumerate(places):
            if most[j][k] is not None and most[j][k] < 0:
                told.append((one, other))
    return told


def told_order(record, times):
    return [pair[1] for pair in sorted(zip(times, events(record)))]


def an_order(record):
    times = world(record)
    return None if times is None else told_order(record, times)


def fits_order(record, order):
    need_record(record)
    for event in order:
        need_event(record, event)
    if sorted(order) != events(record):
        return False
    rising = [(order[k + 1], order[k], 0) for k in range(len(order) - 1)]
    return greatest_world(record, bounds(record) + rising) is not None
