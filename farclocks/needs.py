"""Needs: which bounds and letters matter, and which letters could be left out so that there were a world."""

from farclocks.between import all_most
from farclocks.bounds import bounds
from farclocks.records import events, need_number, need_record
from farclocks.walks import settle
from farclocks.worlds import has_world, need_world


# A bound says nothing new just where the others lead from its one to its other and come to no more.
def is_needless(record, number):
    limits = bounds(record)
    need_number(len(limits), number)
    need_world(record)
    bound = limits[number]
    walks = settle(limits[:number] + limits[number + 1:], [bound[0]])[0]
    return bound[1] in walks and walks[bound[1]][0] <= bound[2]


def all_letters(record):
    return list(range(len(record[1])))


def with_only(record, numbers):
    return (record[0], tuple([record[1][number] for number in numbers]))


def without(numbers, number):
    return [other for other in numbers if other != number]


def needless_letters(record):
    need_world(record)
    numbers = all_letters(record)
    return [number for number in numbers if same_worlds(with_only(record, without(numbers, number)), record)]


# Letters behind the one that is asked of may be gone, those ahead are all there: so its number is still its own.
def least_letters(record):
    need_world(record)
    least = record
    for number in range(len(record[1]) - 1, -1, -1):
        less = with_only(least, without(all_letters(least), number))
        if same_worlds(less, record):
            least = less
    return least


# The mosts between all events tell all worlds: what they let by is just what the bounds do.
def same_worlds(one, other):
    if events(one) != events(other):
        return False
    if not has_world(one) or not has_world(other):
        return not has_world(one) and not has_world(other)
    return all_most(one) == all_most(other)


def sets_of(numbers):
    told = [[]]
    for number in numbers:
        told = told + [part + [number] for part in told]
    return told


# Clocks alone always have a world, so the set without any letter, the last one, ends the search.
def most_kept(record):
    need_record(record)
    sets = sorted(sets_of(all_letters(record)), key=lambda numbers: (-len(numbers), numbers))
    place = 0
    while not has_world(with_only(record, sets[place])):
        place += 1
    return sets[place]


def culprits(record):
    if has_world(record):
        return []
    numbers = all_letters(record)
    return [number for number in numbers if has_world(with_only(record, without(numbers, number)))]
