"""Room: by how much the mosts of all bounds could be less, and a round of bounds that lets them be no less."""

from farclocks.bounds import bounds
from farclocks.records import events, is_long, is_whole
from farclocks.walks import leads_round, settle, sum_of


def is_fraction(thing):
    return is_long(thing, 2, 2) and is_whole(thing[0]) and is_whole(thing[1]) and thing[1] > 0


# A round that passes no event twice is short, so each number that could divide it may be tried.
def in_lowest_terms(up, down):
    common = max([k for k in range(1, down + 1) if up % k == 0 and down % k == 0])
    return (up // common, down // common)


# The mosts less by a fraction, all of them times its down, so that they stay whole numbers.
def lessened(limits, up, down):
    return [(bound[0], bound[1], bound[2] * down - up) for bound in limits]


# With all mosts less by what a round comes to for each of its bounds, rounds that come to less for each are those below
# 0: where there is none, the round is tight. To begin with, 1 to 0 stands for more than any fraction: any round is
# below 0 then. Each round that is found comes to less for each than the one before it, so this ends.
def tight_round(record):
    limits = bounds(record)
    places = events(record)
    tight = None
    found = settle(lessened(limits, 1, 0), places)[1]
    while found is not None:
        tight = found
        found = settle(lessened(limits, sum_of(limits, tight), len(tight)), places)[1]
    return tight


def room(record):
    tight = tight_round(record)
    if tight is None:
        return None
    return in_lowest_terms(sum_of(bounds(record), tight), len(tight))


def shows_room(record, fraction, thing):
    limits = bounds(record)
    if not is_fraction(fraction) or not leads_round(limits, thing):
        return False
    return sum_of(limits, thing) * fraction[1] <= fraction[0] * len(thing)
