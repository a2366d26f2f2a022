"""Knowing: which events can know of which, through readings of one clock and letters between clocks."""

from farclocks.records import events, need_event, need_number, need_record


# Of its own clock the reading straight ahead is enough: the others are known through it.
def known_at_once(record, event):
    told = [letter[0] for letter in record[1] if letter[1] == event]
    if event[1] > 0:
        told.append((event[0], event[1] - 1))
    return told


def knows(record, event):
    need_record(record)
    need_event(record, event)
    known = [event]
    place = 0
    while place < len(known):
        for other in known_at_once(record, known[place]):
            if other not in known:
                known.append(other)
        place += 1
    return sorted(known)


def stamp(record, event):
    clocks = [other[0] for other in knows(record, event)]
    return tuple([clocks.count(number) for number in range(len(record[0]))])


def first_to_know(record, event, clock):
    need_record(record)
    need_event(record, event)
    need_number(len(record[0]), clock)
    for other in events(record):
        if other[0] == clock and event in knows(record, other):
            return other
    return None


def unknown_pairs(record):
    places = events(record)
    known = dict([(event, knows(record, event)) for event in places])
    told = []
    for one in places:
        for other in places:
            if one < other and one not in known[other] and other not in known[one]:
                told.append((one, other))
    return told
