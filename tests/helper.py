"""What several test files need: deeds and diaries to try, and the document's words told the slow way."""

import functools
import random

BOXES = range(60)


def boxes(*numbers):
    """The whole number that tells these boxes."""
    return sum(2 ** number for number in set(numbers))


@functools.lru_cache(maxsize=None)
def told_boxes(number):
    return frozenset(box for box in BOXES if (number // 2 ** box) % 2 == 1)


def slow_clash(one, other):
    """Point 4, box by box."""
    for first, second in ((one, other), (other, one)):
        for box in told_boxes(first[2]):
            if box in told_boxes(second[1]) or box in told_boxes(second[2]):
                return True
    return False


def clash_table(diary):
    """Whether the deeds of two places clash."""
    return [[slow_clash(one, other) for other in diary] for one in diary]


def slow_heights(diary):
    """Point 6: a deed stays at 0 until a clashing one ahead lifts it, again and again until nothing moves."""
    table = clash_table(diary)
    told = [0] * len(diary)
    moved = True
    while moved:
        moved = False
        for place in range(len(diary)):
            for earlier in range(place):
                if table[earlier][place] and told[place] <= told[earlier]:
                    told[place] = told[earlier] + 1
                    moved = True
    return told


def slow_layers(diary):
    """Point 7: each deed in turn is taken to its place among those of its height."""
    told = slow_heights(diary)
    rows = []
    while len(rows) <= max(told, default=-1):
        row = []
        for deed, height in zip(diary, told):
            if height == len(rows):
                at = 0
                while at < len(row) and comes_first(row[at], deed):
                    at += 1
                row.insert(at, deed)
        rows.append(row)
    return rows


def comes_first(one, other):
    if one[0] != other[0]:
        return one[0] < other[0]
    if one[1] != other[1]:
        return one[1] < other[1]
    return one[2] < other[2]


def slow_chain(diary):
    """Point 8, from the last place to the first one."""
    told = slow_heights(diary)
    if not diary:
        return []
    place = 0
    while told[place] != max(told):
        place += 1
    backwards = [place]
    while told[backwards[-1]] != 0:
        later = backwards[-1]
        place = 0
        while told[place] != told[later] - 1 or not slow_clash(diary[place], diary[later]):
            place += 1
        backwards.append(place)
    return backwards[::-1]


def some_deed(source, names, width, density):
    """A deed over the boxes 0, 59 and those next to 0, `width` in all."""
    usable = [0, 59] + list(range(1, 59))
    looks = [box for box in usable[:width] if source.random() < density]
    changes = [box for box in usable[:width] if source.random() < density / 2]
    return (source.randrange(names), boxes(*looks), boxes(*changes))


def some_diaries(seed, how_many, longest):
    """The same diaries for the same seed: crowded and loose ones, with few names and with many."""
    source = random.Random(seed)
    told = []
    for turn in range(how_many):
        names = source.choice([1, 3, 10 ** 60])
        width = source.choice([1, 2, 5, 20, 60])
        density = source.choice([0.05, 0.2, 0.5])
        length = source.randrange(longest + 1)
        told.append([some_deed(source, names, width, density) for place in range(length)])
    return told


class OwnLists:
    """Tests for a function `self.tell` of a diary that tells a list: what [1] says of it.

    `self.diary` is a diary whose answer has at least two members.
    """

    def test_nothing_handed_in_is_changed(self):
        for diary in some_diaries(11, 60, 12) + [[], list(self.diary)]:
            before = list(diary)
            self.tell(diary)
            self.assertEqual(diary, before)

    def test_the_answer_is_a_list(self):
        self.assertIs(type(self.tell(self.diary)), list)
        self.assertIs(type(self.tell([])), list)

    def test_a_told_list_stays_when_another_is_told(self):
        first = self.tell(self.diary)
        kept = repr(first)
        self.tell([])
        self.tell([(9, 1, 1)] * 3)
        self.tell(self.diary)
        self.assertEqual(repr(first), kept)

    def test_a_told_list_stays_when_the_diary_is_changed(self):
        diary = list(self.diary)
        told = self.tell(diary)
        kept = repr(told)
        diary.reverse()
        diary.clear()
        self.assertEqual(repr(told), kept)

    def test_each_answer_is_a_new_list(self):
        self.assertIsNot(self.tell(self.diary), self.tell(self.diary))
        self.assertIsNot(self.tell([]), self.tell([]))
        self.assertIsNot(self.tell(self.diary), self.diary)

    def test_changing_a_told_list_changes_no_later_answer(self):
        for diary in ([], [(1, 0, 0)], list(self.diary)):
            first = self.tell(diary)
            kept = repr(first)
            before = list(diary)
            first.append("mine")
            first.reverse()
            self.assertEqual(repr(self.tell(diary)), kept)
            first.clear()
            self.assertEqual(repr(self.tell(diary)), kept)
            self.assertEqual(diary, before)
