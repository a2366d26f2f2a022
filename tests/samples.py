"""Records and other things that several tests use."""

import copy


def nested(depth, kind):
    thing = 0
    for _ in range(depth):
        thing = kind([thing])
    return thing


# Signs of every kind that may be handed in where any thing is taken.
ODD = [
    None, True, False, -1, 10 ** 30, 10 ** 5000, "", "0", "clock", [], [0], [None], (), (None,), ("",),
    ((),), ((), ()), ([], []), ((), (), ()), nested(10, tuple), nested(12, list), ([([(None, True)], "x")],),
]

CLOCKS = ((2, 3, (5, 9, 40)), (1, 1, (0,)), (1, 9, (0, 1, 98, 99)))
LETTERS = (((0, 1), (2, 0), 5, 30), ((2, 0), (1, 0), 0, None), ((1, 0), (0, 0), 999, 999))
RECORD = (CLOCKS, LETTERS)

# One clock, one reading: the least record there is.
LEAST = (((1, 1, (0,)),), ())

# A record with as much of everything as there may be.
FULL_CLOCK = (9, 9, (96, 97, 98, 99))
FULL = ((FULL_CLOCK,) * 4, (((0, 0), (3, 3), 999, None),) * 8)


def with_clock(clock):
    return ((clock,), ())


def with_letters(*letters):
    return (CLOCKS, letters)


def as_list(thing):
    """The thing with a list in the place of each tuple."""
    if isinstance(thing, tuple):
        return [as_list(part) for part in thing]
    return thing


# Things that are no records, among them some that are nearly one.
NO_RECORDS = ODD + [
    as_list(RECORD), list(RECORD), (list(CLOCKS), LETTERS), (CLOCKS, list(LETTERS)), CLOCKS, LETTERS,
    RECORD + ((),), RECORD[:1], ((), ()), with_clock((True, 1, (0,))), (CLOCKS[:1], LETTERS),
]


def leaves_unchanged(case, things, call):
    """The call is made with the things; the case fails if one of them is another one then."""
    before = copy.deepcopy(things)
    call(*things)
    case.assertEqual(repr_of(before), repr_of(things))


def repr_of(thing):
    # Tells True from 1, as == does not, and writes great numbers, as repr does not.
    if isinstance(thing, (list, tuple)):
        return (type(thing).__name__, [repr_of(part) for part in thing])
    return (type(thing).__name__, hex(thing) if isinstance(thing, int) else thing)
