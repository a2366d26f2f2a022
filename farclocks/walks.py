"""Walks along bounds, each of which begins where the one ahead ends: where they lead, and what they come to."""

from farclocks.records import is_within


def are_numbers(limits, thing):
    return isinstance(thing, list) and all([is_within(part, 0, len(limits) - 1) for part in thing])


def sum_of(limits, walk):
    return sum([limits[number][2] for number in walk])


def leads(limits, one, other, thing):
    if not are_numbers(limits, thing):
        return False
    place = one
    for number in thing:
        if limits[number][0] != place:
            return False
        place = limits[number][1]
    return place == other


def leads_round(limits, thing):
    if not are_numbers(limits, thing) or thing == []:
        return False
    start = limits[thing[0]][0]
    return leads(limits, start, start, thing)


# For each event that can be come to from a start, what the least walk there comes to, and that walk; or None, and
# a round that comes to less than 0. A walk is kept only if it comes to less than the one kept so far. So one that is
# back at an event that it passed comes to less there than at first, by the round between. As walks that pass no event
# twice are not without end, and each that is kept comes to less than the one before it, this ends.
def settle(limits, starts):
    best = dict([(event, (0, [])) for event in starts])
    moved = True
    while moved:
        moved = False
        for number, bound in enumerate(limits):
            ahead = best.get(bound[0])
            if ahead is None or not is_better(best, bound, ahead):
                continue
            walk = ahead[1] + [number]
            passed = [limits[step][0] for step in walk]
            if bound[1] in passed:
                return (None, walk[passed.index(bound[1]):])
            best[bound[1]] = (ahead[0] + bound[2], walk)
            moved = True
    return (best, None)


def is_better(best, bound, ahead):
    known = best.get(bound[1])
    return known is None or ahead[0] + bound[2] < known[0]
