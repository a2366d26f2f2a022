"""Records and other things that several tests use."""

import copy
import itertools

from farclocks.bounds import bounds
from farclocks.records import events


def nested(depth, kind):
    thing = 0
    for _ in range(depth):
        thing = kind([thing])
    return thing


# Signs of every kind that may be handed in where any thing is taken.
ODD = [
    None, True, False, -1, 10 ** 30, 10 ** 5000, "", "0", "clock", [], [0], [None], (), (None,), ("",),
    ((),), ((), ()), ([], []), ((), (), ()), nested(10, tuple), nested(12, list), ([([(None, True)], "x")],),
]

CLOCKS = ((2, 3, (5, 9, 40)), (1, 1, (0,)), (1, 9, (0, 1, 98, 99)))
LETTERS = (((0, 1), (2, 0), 5, 30), ((2, 0), (1, 0), 0, None), ((1, 0), (0, 0), 999, 999))
RECORD = (CLOCKS, LETTERS)

# One clock, one reading: the least record there is.
LEAST = (((1, 1, (0,)),), ())

# A record with as much of everything as there may be.
FULL_CLOCK = (9, 9, (96, 97, 98, 99))
FULL = ((FULL_CLOCK,) * 4, (((0, 0), (3, 3), 999, None),) * 8)

# Two clocks and a letter from the first reading of the one to the second one of the other.
PAIR = (((2, 3, (0, 10)), (1, 1, (4, 7))), (((0, 0), (1, 1), 5, 8),))

# Clocks that are read once, so that letters alone bind their events.
A, B, C, D = (0, 0), (1, 0), (2, 0), (3, 0)
ONCE = ((1, 1, (0,)),) * 4


def by_letters(*letters):
    return (ONCE, letters)


# A least each way, together above 0: B is later than A, and A is no less late than B.
NO_WORLD = by_letters((A, B, 5, 8), (B, A, 0, None))
AT_ONCE = by_letters((A, B, 0, None), (B, A, 0, None))

# Eight letters, with a most and without, the last of which lets a world by or bars it.
SEVEN = (
    (A, B, 5, 8), (B, C, 2, 3), (A, C, 7, 11), (A, C, 0, None), (C, D, 1, None), (A, D, 3, 40), (A, B, 6, 20),
)
EIGHT = by_letters(*SEVEN, (B, D, 0, 9))
EIGHT_WITHOUT_WORLD = by_letters(*SEVEN, (A, D, 999, None))


def with_clock(clock):
    return ((clock,), ())


def with_letters(*letters):
    return (CLOCKS, letters)


def as_list(thing):
    """The thing with a list in the place of each tuple."""
    if isinstance(thing, tuple):
        return [as_list(part) for part in thing]
    return thing


# Things that are no records, among them some that are nearly one.
NO_RECORDS = ODD + [
    as_list(RECORD), list(RECORD), (list(CLOCKS), LETTERS), (CLOCKS, list(LETTERS)), CLOCKS, LETTERS,
    RECORD + ((),), RECORD[:1], ((), ()), with_clock((True, 1, (0,))), (CLOCKS[:1], LETTERS),
]

# What is no event of a record with four clocks that are read once, nor of one with two that are read twice.
NO_EVENTS = ODD + [
    (4, 0), (0, 4), (-1, 0), (0, -1), [0, 0], (0,), (0, 0, 0), (False, 0), (0, False), ("0", 0), (0, None), ((0,), 0),
    0, "00", (10 ** 5000, 0), (0, 10 ** 5000),
]


def leaves_unchanged(case, things, call):
    """The call is made with the things; the case fails if one of them is another one then."""
    before = copy.deepcopy(things)
    call(*things)
    case.assertEqual(repr_of(before), repr_of(things))


def refuses(case, refusal, call, *things):
    """The case fails if the call is not refused with just this class."""
    with case.assertRaises(refusal, msg=(call.__name__, repr_of(things))) as told:
        call(*things)
    case.assertIs(type(told.exception), refusal)


def repr_of(thing):
    # Tells True from 1, as == does not, and writes great numbers, as repr does not.
    if isinstance(thing, (list, tuple)):
        return (type(thing).__name__, [repr_of(part) for part in thing])
    return (type(thing).__name__, hex(thing) if isinstance(thing, int) else thing)


class Draw:
    """Numbers that look like drawn ones, and are the same each time."""

    def __init__(self, seed):
        self.state = seed * 2654435761 % 2 ** 32

    def upto(self, least, most):
        self.state = (self.state * 1664525 + 1013904223) % 2 ** 32
        return least + (self.state >> 12) % (most - least + 1)

    def clock(self, readings, last):
        slow = self.upto(1, 3)
        told = []
        while len(told) < readings:
            told = sorted(set(told + [self.upto(0, last)]))
        return (slow, self.upto(slow, 4), tuple(told))

    def times(self, clocks, longest):
        """Times that hold all bounds of the clocks."""
        told = {}
        for number, (slow, fast, readings) in enumerate(clocks):
            told[number, 0] = self.upto(0, longest)
            for k in range(1, len(readings)):
                step = self.upto(slow, fast)
                told[number, k] = told[number, k - 1] + step * (readings[k] - readings[k - 1])
        return told

    def letter(self, times, longest):
        """A letter that the times hold, but for one in five, which may be any."""
        places = sorted(times)
        one = places.pop(self.upto(0, len(places) - 1))
        other = places[self.upto(0, len(places) - 1)]
        least = self.upto(0, longest)
        most = self.upto(least, longest + 2)
        if self.upto(0, 4) > 0:
            one, other = sorted([one, other], key=times.get)
            least = max(0, times[other] - times[one] - least)
            most = times[other] - times[one] + most
        return (one, other, least, None if self.upto(0, 2) == 0 else most)

    def record(self, many_clocks, most_readings, last, longest):
        clocks = tuple([self.clock(self.upto(1, most_readings), last) for _ in range(many_clocks)])
        times = self.times(clocks, longest)
        many = self.upto(0, 8) if len(times) > 1 else 0
        return (clocks, tuple([self.letter(times, longest) for _ in range(many)]))


# Records of every size; and small ones, all worlds of which can be tried one by one.
DRAWN = [Draw(seed).record(1 + seed % 4, 4, 20, 25) for seed in range(120)]
SMALL = [Draw(seed).record(2 + seed % 2, 1, 3, 2) for seed in range(60)]
SMALL += [Draw(seed).record(1 + seed % 2, 2, 1, 2) for seed in range(40)]
NAMED = [
    RECORD, LEAST, FULL, PAIR, NO_WORLD, AT_ONCE, EIGHT, EIGHT_WITHOUT_WORLD, by_letters(), (CLOCKS, ()),
    with_clock((2, 3, (5, 9, 40))), with_clock((2, 2, (0, 1, 2, 3))),
    (((2, 3, (5, 9, 40)),), (((0, 0), (0, 2), 75, 80),)), (((2, 3, (5, 9, 40)),), (((0, 2), (0, 0), 0, None),)),
]
RECORDS = NAMED + DRAWN + SMALL


def mosts(places, limits):
    """The most between each two places, None where there is none; or None where a round comes to less than 0. Step
    by step through each place, not along walks as the program does."""
    most = {(one, other): 0 if one == other else None for one in places for other in places}
    for one, other, many in limits:
        if most[one, other] is None or many < most[one, other]:
            most[one, other] = many
    for over, one, other in itertools.product(places, repeat=3):
        if most[one, over] is None or most[over, other] is None:
            continue
        many = most[one, over] + most[over, other]
        if most[one, other] is None or many < most[one, other]:
            most[one, other] = many
    return None if any(most[place, place] < 0 for place in places) else most


def table(record, without=(), more=()):
    """The most between each two events of a record, or None without a world."""
    limits = [bound for number, bound in enumerate(bounds(record)) if number not in without] + list(more)
    return mosts(events(record), limits)


TABLES = {record: table(record) for record in RECORDS}
WITH_WORLD = [record for record in RECORDS if TABLES[record] is not None]
WITHOUT_WORLD = [record for record in RECORDS if TABLES[record] is None]


def pairs(record):
    return list(itertools.product(events(record), repeat=2))


def comes_to(limits, numbers):
    return sum(limits[number][2] for number in numbers)


def tried_worlds(record, least):
    """All worlds of a record with times from least to 0, each tried by the bounds' own words."""
    places = {event: k for k, event in enumerate(events(record))}
    limits = [(places[one], places[other], most) for one, other, most in bounds(record)]
    tried = itertools.product(range(least, 1), repeat=len(places))
    return [times for times in tried if all(times[other] - times[one] <= most for one, other, most in limits)]


# No time of a small record's greatest world comes near this.
DEEPEST = -10


def tried_apart(record):
    """For each two events of a small record, by how much the other is later in each world that is tried."""
    tried, places = tried_worlds(record, DEEPEST), events(record)
    told = {}
    for one, other in pairs(record) if tried else []:
        told[one, other] = [times[places.index(other)] - times[places.index(one)] for times in tried]
    return told
