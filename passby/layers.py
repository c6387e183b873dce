"""Layers: the heights of a diary's deeds, its layers, and the chain that says why there are no fewer."""

from passby.deeds import clash


def height_behind(ahead, told, deed):
    # zip ends with the heights told so far, so a longer diary may be handed in as the deeds ahead.
    return max([height + 1 for earlier, height in zip(ahead, told) if clash(earlier, deed)], default=0)


def heights(diary):
    told = []
    for deed in diary:
        told.append(height_behind(diary, told, deed))
    return told


def laid(diary, told):
    rows = [[] for height in range(max(told, default=-1) + 1)]
    for deed, height in zip(diary, told):
        rows[height].append(deed)
    return [sorted(row) for row in rows]


def layers(diary):
    return laid(diary, heights(diary))


def place_below(diary, told, place):
    # A clashing deed behind this place would lie higher, so those ahead of it are all there is to ask.
    wanted = told[place] - 1
    return min([k for k in range(place) if told[k] == wanted and clash(diary[k], diary[place])])


def chain(diary):
    told = heights(diary)
    if len(told) == 0:
        return []
    places = [told.index(max(told))]
    while told[places[0]] > 0:
        places.insert(0, place_below(diary, told, places[0]))
    return places
