"""What several test files need: deeds and diaries to try, and the document's words told the slow way."""

import functools
import random

from passby.errors import NoBox, NoDeed, NoPass, Nothing, PassbyError

REFUSALS = (NoDeed, NoPass, Nothing, NoBox)

BOXES = range(60)


def boxes(*numbers):
    """The whole number that tells these boxes."""
    return sum(2 ** number for number in set(numbers))


@functools.lru_cache(maxsize=None)
def told_boxes(number):
    return frozenset(box for box in BOXES if (number // 2 ** box) % 2 == 1)


def slow_clash(one, other):
    """Point 4, box by box."""
    for first, second in ((one, other), (other, one)):
        for box in told_boxes(first[2]):
            if box in told_boxes(second[1]) or box in told_boxes(second[2]):
                return True
    return False


def clash_table(diary):
    """Whether the deeds of two places clash."""
    return [[slow_clash(one, other) for other in diary] for one in diary]


def slow_heights(diary):
    """Point 6: a deed stays at 0 until a clashing one ahead lifts it, again and again until nothing moves."""
    table = clash_table(diary)
    told = [0] * len(diary)
    moved = True
    while moved:
        moved = False
        for place in range(len(diary)):
            for earlier in range(place):
                if table[earlier][place] and told[place] <= told[earlier]:
                    told[place] = told[earlier] + 1
                    moved = True
    return told


def slow_layers(diary):
    """Point 7: each deed in turn is taken to its place among those of its height."""
    told = slow_heights(diary)
    rows = []
    while len(rows) <= max(told, default=-1):
        row = []
        for deed, height in zip(diary, told):
            if height == len(rows):
                at = 0
                while at < len(row) and comes_first(row[at], deed):
                    at += 1
                row.insert(at, deed)
        rows.append(row)
    return rows


def comes_first(one, other):
    if one[0] != other[0]:
        return one[0] < other[0]
    if one[1] != other[1]:
        return one[1] < other[1]
    return one[2] < other[2]


def slow_chain(diary):
    """Point 8, from the last place to the first one."""
    told = slow_heights(diary)
    if not diary:
        return []
    place = 0
    while told[place] != max(told):
        place += 1
    backwards = [place]
    while told[backwards[-1]] != 0:
        later = backwards[-1]
        place = 0
        while told[place] != told[later] - 1 or not slow_clash(diary[place], diary[later]):
            place += 1
        backwards.append(place)
    return backwards[::-1]


def slow_way(one, other):
    """Point 11: the diary itself is changed by each passing."""
    diary = list(one)
    places = []
    for place, wanted in enumerate(other):
        at = place
        while at < len(diary) and diary[at] != wanted:
            at += 1
        if at >= len(diary):
            return None
        while at > place:
            at -= 1
            if slow_clash(diary[at], diary[at + 1]):
                return None
            diary[at], diary[at + 1] = diary[at + 1], diary[at]
            places.append(at)
    return places if len(diary) == len(other) else None


def times(deed, diary):
    return len([made for made in diary if made == deed])


def partner(one, other, place):
    """Point 12: the place in the other diary, found by counting the equal deeds ahead."""
    for there in range(len(other)):
        if other[there] == one[place] and times(one[place], one[:place]) == times(one[place], other[:there]):
            return there
    return None


def slow_reason(one, other):
    """Point 12: all the uneven deeds, or all the turned places, and the least of them."""
    uneven = [deed for deed in one + other if times(deed, one) != times(deed, other)]
    if uneven:
        least = uneven[0]
        for deed in uneven:
            if comes_first(deed, least):
                least = deed
        return ("count", least, times(least, one), times(least, other))
    there = [partner(one, other, place) for place in range(len(one))]
    turned = [
        (p, q)
        for p in range(len(one))
        for q in range(len(one))
        if p < q and there[q] < there[p] and slow_clash(one[p], one[q])
    ]
    return ("turned",) + min(turned) if turned else None


def slow_done(diary, contents):
    """Point 13, box by box; None where a box has no content."""
    said = []
    now = dict(enumerate(contents))
    for name, looks, changes in diary:
        if not (told_boxes(looks) | told_boxes(changes)) <= set(now):
            return None
        number = name
        for box in told_boxes(looks):
            for turn in range(box + 1):
                number += now[box]
        said.append(number)
        for box in told_boxes(changes):
            now[box] = number + box
    return (said, [now[box] for box in range(len(contents))])


def fewest_passings(one):
    """Point 10: each diary that is alike, as a tuple, and how many passings lead there at the least."""
    found = {tuple(one): 0}
    fresh = [tuple(one)]
    while fresh:
        later = []
        for diary in fresh:
            for place in range(len(diary) - 1):
                first, second = diary[place], diary[place + 1]
                made = diary[:place] + (second, first) + diary[place + 2:]
                if made not in found and not slow_clash(first, second):
                    found[made] = found[diary] + 1
                    later.append(made)
        fresh = later
    return found


def some_deed(source, names, width, density):
    """A deed over the boxes 0, 59 and those next to 0, `width` in all."""
    usable = [0, 59] + list(range(1, 59))
    looks = [box for box in usable[:width] if source.random() < density]
    changes = [box for box in usable[:width] if source.random() < density / 2]
    return (source.randrange(names), boxes(*looks), boxes(*changes))


def some_diaries(seed, how_many, longest):
    """The same diaries for the same seed: crowded and loose ones, with few names and with many."""
    source = random.Random(seed)
    told = []
    for turn in range(how_many):
        names = source.choice([1, 3, 10 ** 60])
        width = source.choice([1, 2, 5, 20, 60])
        density = source.choice([0.05, 0.2, 0.5])
        length = source.randrange(longest + 1)
        told.append([some_deed(source, names, width, density) for place in range(length)])
    return told


def after_passings(source, diary, tries):
    """An alike diary: neighbours that do not clash pass one another here and there."""
    made = list(diary)
    for turn in range(tries if len(made) > 1 else 0):
        place = source.randrange(len(made) - 1)
        if not slow_clash(made[place], made[place + 1]):
            made[place], made[place + 1] = made[place + 1], made[place]
    return made


def with_an_exchange(source, diary):
    made = list(diary)
    if made:
        one, other = source.randrange(len(made)), source.randrange(len(made))
        made[one], made[other] = made[other], made[one]
    return made


def with_one_left_out(source, diary):
    made = list(diary)
    if made:
        made.pop(source.randrange(len(made)))
    return made


def with_one_put_in(source, diary):
    made = list(diary)
    deed = source.choice(made) if made and source.random() < 0.5 else some_deed(source, 3, 5, 0.2)
    made.insert(source.randrange(len(made) + 1), deed)
    return made


def some_others(source, diary):
    """Diaries made of this one: some alike, some apart, some either."""
    passed_about = after_passings(source, diary, 3 * len(diary))
    told = [list(diary), passed_about]
    for start in (diary, passed_about):
        told.append(with_an_exchange(source, start))
        told.append(with_one_left_out(source, start))
        told.append(with_one_put_in(source, start))
        told.append(with_one_put_in(source, with_one_left_out(source, start)))
    return told


def some_pairs(seed, how_many, longest):
    """Each drawn diary beside those that are made of it, either one first, and beside the next one drawn."""
    source = random.Random(seed)
    diaries = some_diaries(seed, how_many, longest)
    told = []
    for one, following in zip(diaries, diaries[1:] + diaries[:1]):
        for other in some_others(source, one) + [following]:
            told.append((one, other))
            told.append((other, one))
    return told


class Refusing:
    """A test of a call that is refused, and with nothing but this refusal."""

    def assert_refused(self, wanted, tell, *parts):
        for taken in (wanted, PassbyError, ValueError):
            with self.assertRaises(taken) as caught:
                tell(*parts)
            for kind in REFUSALS:
                self.assertEqual(isinstance(caught.exception, kind), kind is wanted)


class OwnLists:
    """Tests for a function `self.tell` of a diary that tells a list: what [1] says of it.

    `self.diary` is a diary whose answer has at least two members.
    """

    def test_nothing_handed_in_is_changed(self):
        for diary in some_diaries(11, 60, 12) + [[], list(self.diary)]:
            before = list(diary)
            self.tell(diary)
            self.assertEqual(diary, before)

    def test_the_answer_is_a_list(self):
        self.assertIs(type(self.tell(self.diary)), list)
        self.assertIs(type(self.tell([])), list)

    def test_a_told_list_stays_when_another_is_told(self):
        first = self.tell(self.diary)
        kept = repr(first)
        self.tell([])
        self.tell([(9, 1, 1)] * 3)
        self.tell(self.diary)
        self.assertEqual(repr(first), kept)

    def test_a_told_list_stays_when_the_diary_is_changed(self):
        diary = list(self.diary)
        told = self.tell(diary)
        kept = repr(told)
        diary.reverse()
        diary.clear()
        self.assertEqual(repr(told), kept)

    def test_each_answer_is_a_new_list(self):
        self.assertIsNot(self.tell(self.diary), self.tell(self.diary))
        self.assertIsNot(self.tell([]), self.tell([]))
        self.assertIsNot(self.tell(self.diary), self.diary)

    def test_changing_a_told_list_changes_no_later_answer(self):
        for diary in ([], [(1, 0, 0)], list(self.diary)):
            first = self.tell(diary)
            kept = repr(first)
            before = list(diary)
            first.append("mine")
            first.reverse()
            self.assertEqual(repr(self.tell(diary)), kept)
            first.clear()
            self.assertEqual(repr(self.tell(diary)), kept)
            self.assertEqual(diary, before)
