"""Between two events: by how much the one is later than the other in all worlds, and the bounds that show it."""

from farclocks.bounds import bounds
from farclocks.records import events, is_whole, need_event, need_record
from farclocks.walks import leads, settle, sum_of
from farclocks.worlds import greatest_world, need_world


def need_events(record, one, other):
    need_record(record)
    need_event(record, one)
    need_event(record, other)


def walks_from(record, one):
    return settle(bounds(record), [one])[0]


def most_of(walks, other):
    return walks[other][0] if other in walks else None


def most_between(record, one, other):
    need_events(record, one, other)
    need_world(record)
    return most_of(walks_from(record, one), other)


def least_between(record, one, other):
    most = most_between(record, other, one)
    return None if most is None else -most


def all_most(record):
    need_world(record)
    places = events(record)
    told = []
    for one in places:
        walks = walks_from(record, one)
        told.append(tuple([most_of(walks, other) for other in places]))
    return tuple(told)


def world_with(record, one, other, many):
    need_events(record, one, other)
    need_world(record)
    return greatest_world(record, bounds(record) + [(one, other, many), (other, one, -many)])


def way(record, one, other):
    need_events(record, one, other)
    need_world(record)
    walks = walks_from(record, one)
    return walks[other][1] if other in walks else None


def shows(record, one, other, many, thing):
    need_events(record, one, other)
    limits = bounds(record)
    return is_whole(many) and leads(limits, one, other, thing) and sum_of(limits, thing) <= many
