"""Worlds: times that hold all bounds, or a round of bounds that bars them."""

from farclocks.bounds import bounds, is_world
from farclocks.errors import NoWorld
from farclocks.records import events
from farclocks.walks import leads_round, settle, sum_of


# Each time is the least that a walk to the event comes to, from wherever it begins at 0: no bound lets it be
# greater, and it is 0 at most, as the empty walk comes to that.
def greatest_world(record, limits):
    places = events(record)
    best = settle(limits, places)[0]
    if best is None:
        return None
    return tuple([best[event][0] for event in places])


def world(record):
    return greatest_world(record, bounds(record))


def has_world(record):
    return world(record) is not None


def need_world(record):
    if not has_world(record):
        raise NoWorld("the record has no world")


def moved_by(record, times, many):
    if not is_world(record, times):
        raise NoWorld("these times are no world of the record")
    return tuple([time + many for time in times])


def barring(record):
    return settle(bounds(record), events(record))[1]


def bars(record, thing):
    limits = bounds(record)
    return leads_round(limits, thing) and sum_of(limits, thing) < 0
