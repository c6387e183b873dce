"""Ways: neighbours that pass one another, the way from a diary to another one, and the reason why there is none."""

from passby.deeds import clash
from passby.errors import NoPass


def passed(diary, place):
    # Python would count a place below 0 from the end, but it is none of the diary's.
    if place < 0 or place + 1 >= len(diary):
        raise NoPass("the place or the one behind it is none of the diary's")
    if clash(diary[place], diary[place + 1]):
        raise NoPass("the deed at the place and the one behind it clash")
    return diary[:place] + [diary[place + 1], diary[place]] + diary[place + 2:]


def some_clash(between, deed):
    return any([clash(passing, deed) for passing in between])


def way(one, other):
    # What is brought to its place is never passed again, so only the rest is kept: its first deed lies at that place.
    rest = list(one)
    places = []
    for place, deed in enumerate(other):
        if deed not in rest:
            return None
        steps = rest.index(deed)
        if some_clash(rest[:steps], deed):
            return None
        places.extend(list(range(place + steps - 1, place - 1, -1)))
        rest.pop(steps)
    if len(rest) > 0:
        return None
    return places


def count_reason(one, other):
    for deed in sorted(set(one + other)):
        here = one.count(deed)
        there = other.count(deed)
        if here != there:
            return ("count", deed, here, there)
    return None


def partners(one, other):
    # Each deed is to come as often in the one as in the other.
    waiting = {}
    for place, deed in enumerate(other):
        waiting.setdefault(deed, []).append(place)
    told = []
    for deed in one:
        told.append(waiting[deed].pop(0))
    return told


def turned_reason(one, other):
    there = partners(one, other)
    for p in range(len(one)):
        for q in range(p + 1, len(one)):
            if there[p] > there[q] and clash(one[p], one[q]):
                return ("turned", p, q)
    return None


def reason(one, other):
    uneven = count_reason(one, other)
    if uneven is not None:
        return uneven
    return turned_reason(one, other)
