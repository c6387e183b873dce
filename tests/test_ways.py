"""Passings [10], the way [11] and the reason [12]; told lists are the asker's own [1]."""

import inspect
import itertools
import random
import unittest

from passby.deeds import deed
from passby.errors import NoPass
from passby.ways import passed, reason, way
from tests.helper import (
    OwnLists, Refusing, after_passings, boxes, fewest_passings, partner, slow_clash, slow_reason, slow_way, some_deed,
    some_diaries, some_pairs,
)

LOOK_0, CHANGE_0 = deed(1, boxes(0)), deed(2, 0, boxes(0))
LOOK_59, CHANGE_59 = deed(3, boxes(59)), deed(4, 0, boxes(59))
CHANGE_BOTH = deed(5, 0, boxes(0, 59))
A, B, C, D = deed(10, 0), deed(11, 0), deed(12, 0), deed(13, 0)
FAR = 10 ** 100 - 1


def walked(diary, places):
    for place in places:
        diary = passed(diary, place)
    return diary


def turned_pairs(one, other):
    """How many pairs of places have partners that stand the other way about."""
    there = [partner(one, other, place) for place in range(len(one))]
    return len([pair for pair in itertools.combinations(there, 2) if pair[0] > pair[1]])


class Passed(Refusing, unittest.TestCase):
    def test_interface(self):
        self.assertEqual(list(inspect.signature(passed).parameters), ["diary", "place"])
        self.assertEqual(passed(place=0, diary=[A, B]), [B, A])

    def test_by_hand(self):
        diary = [LOOK_0, CHANGE_59, CHANGE_0, LOOK_59, LOOK_0]
        self.assertEqual(passed(diary, 0), [CHANGE_59, LOOK_0, CHANGE_0, LOOK_59, LOOK_0])
        self.assertEqual(passed(diary, 1), [LOOK_0, CHANGE_0, CHANGE_59, LOOK_59, LOOK_0])
        self.assertEqual(passed(diary, 2), [LOOK_0, CHANGE_59, LOOK_59, CHANGE_0, LOOK_0])
        self.assertEqual(passed(diary, 3), [LOOK_0, CHANGE_59, CHANGE_0, LOOK_0, LOOK_59])

    def test_equal_neighbours(self):
        self.assertEqual(passed([LOOK_0, LOOK_0, A], 0), [LOOK_0, LOOK_0, A])
        self.assert_refused(NoPass, passed, [CHANGE_0, CHANGE_0], 0)

    def test_the_next_passing_is_asked_of_what_was_told(self):
        diary = [A, B, C, D]
        self.assertEqual(walked(diary, [0, 1, 2]), [B, C, D, A])
        self.assertEqual(walked(diary, [2, 1, 0]), [D, A, B, C])
        self.assertEqual(walked(diary, [1, 1]), diary)
        self.assertEqual(diary, [A, B, C, D])

    def test_a_new_list(self):
        for diary in ([A, B], [LOOK_0, LOOK_0], [A, B, C]):
            before = list(diary)
            told = passed(diary, 0)
            self.assertIs(type(told), list)
            self.assertIsNot(told, diary)
            self.assertEqual(diary, before)
            kept = list(told)
            diary.clear()
            self.assertEqual(told, kept)

    def test_changing_a_told_diary_changes_nothing(self):
        diary = [A, B, C]
        told = passed(diary, 1)
        told.append(D)
        told.reverse()
        self.assertEqual(diary, [A, B, C])
        self.assertEqual(passed(diary, 1), [A, C, B])
        told.clear()
        self.assertEqual(passed(diary, 1), [A, C, B])

    def test_where_they_clash(self):
        for one, other in ((LOOK_0, CHANGE_0), (CHANGE_0, CHANGE_0), (CHANGE_0, CHANGE_BOTH), (LOOK_59, CHANGE_BOTH)):
            for diary in ([A, one, other, B], [A, other, one, B]):
                self.assert_refused(NoPass, passed, diary, 1)
                self.assertNotEqual(passed(diary, 0), diary)
                self.assertNotEqual(passed(diary, 2), diary)

    def test_none_of_the_diarys_places(self):
        for diary in ([], [A], [A, B], [A, B, C], [LOOK_0] * 5):
            before = list(diary)
            length = len(diary)
            for place in (length - 1, length, length + 1, 300, 2 ** 64, FAR, -1, -2, -length, -length - 1, -300, -FAR):
                with self.subTest(diary=diary, place=place):
                    self.assert_refused(NoPass, passed, diary, place)
            self.assertEqual(diary, before)

    def test_a_refused_diary_stays(self):
        diary = [LOOK_0, CHANGE_0, A]
        for place in (0, 2, 3, -1, -3):
            self.assert_refused(NoPass, passed, diary, place)
        self.assertEqual(diary, [LOOK_0, CHANGE_0, A])

    def test_each_place_of_drawn_diaries(self):
        seen = []
        for diary in some_diaries(10, 120, 10):
            before = list(diary)
            for place in range(-len(diary) - 2, len(diary) + 2):
                if 0 <= place and place + 1 < len(diary) and not slow_clash(diary[place], diary[place + 1]):
                    told = passed(diary, place)
                    self.assertEqual([told[place], told[place + 1]], [diary[place + 1], diary[place]])
                    self.assertEqual(told[:place] + told[place + 2:], diary[:place] + diary[place + 2:])
                    self.assertEqual(len(told), len(diary))
                    self.assertEqual(passed(told, place), diary)
                    seen.append(True)
                else:
                    self.assert_refused(NoPass, passed, diary, place)
            self.assertEqual(diary, before)
        self.assertGreater(len(seen), 100)


# Two diaries and the way, told by hand.
WAYS = (
    ([], [], []),
    ([A], [A], []),
    ([A, B, C], [A, B, C], []),
    ([LOOK_0, CHANGE_0, CHANGE_0], [LOOK_0, CHANGE_0, CHANGE_0], []),
    ([A, B], [B, A], [0]),
    ([A, B, C], [C, A, B], [1, 0]),
    ([A, B, C], [B, C, A], [0, 1]),
    ([A, B, C], [C, B, A], [1, 0, 1]),
    ([A, B, C, D], [D, C, B, A], [2, 1, 0, 2, 1, 2]),
    ([A, B, C, D], [A, D, C, B], [2, 1, 2]),
    # Equal deeds: the first one is brought, and none passes an equal one.
    ([A, A], [A, A], []),
    ([B, A, A], [A, A, B], [0, 1]),
    ([B, A, C, A], [A, C, A, B], [0, 1, 2]),
    ([B, A, C, A], [A, A, C, B], [0, 2, 1, 2]),
    ([LOOK_0, A, LOOK_0], [A, LOOK_0, LOOK_0], [0]),
    ([CHANGE_0, A, CHANGE_0], [A, CHANGE_0, CHANGE_0], [0]),
    ([CHANGE_0, A, CHANGE_0, B], [A, CHANGE_0, B, CHANGE_0], [0, 2]),
    ([CHANGE_0, CHANGE_59, CHANGE_0], [CHANGE_59, CHANGE_0, CHANGE_0], [0]),
    ([CHANGE_0, CHANGE_59, CHANGE_0, CHANGE_59], [CHANGE_59, CHANGE_59, CHANGE_0, CHANGE_0], [0, 2, 1]),
    ([CHANGE_0, LOOK_59, LOOK_0], [LOOK_59, CHANGE_0, LOOK_0], [0]),
    # A deed is missing, or left over.
    ([], [A], None),
    ([A], [], None),
    ([A], [B], None),
    ([A, B], [A], None),
    ([A, B], [B], None),
    ([A], [A, A], None),
    ([A, A], [A], None),
    ([A, A, B], [A, B, B], None),
    ([deed(1, 2, 4)], [deed(1, 2, 8)], None),
    ([deed(1, 2, 4)], [deed(1, 3, 4)], None),
    # A deed would have to pass one that clashes with it.
    ([LOOK_0, CHANGE_0], [CHANGE_0, LOOK_0], None),
    ([CHANGE_0, LOOK_0], [LOOK_0, CHANGE_0], None),
    ([LOOK_0, A, CHANGE_0], [CHANGE_0, A, LOOK_0], None),
    ([LOOK_0, A, CHANGE_0], [A, CHANGE_0, LOOK_0], None),
    ([CHANGE_BOTH, LOOK_0, CHANGE_59], [CHANGE_59, LOOK_0, CHANGE_BOTH], None),
    ([CHANGE_0, LOOK_0, CHANGE_0], [CHANGE_0, CHANGE_0, LOOK_0], None),
    ([LOOK_0, CHANGE_0, LOOK_0], [LOOK_0, LOOK_0, CHANGE_0], None),
)


class Way(OwnLists, unittest.TestCase):
    diary = [A, B, C]

    def tell(self, diary):
        """The way to the diary in which the first deed is brought behind those that it can pass."""
        other = list(diary)
        place = 0
        while place + 1 < len(other) and not slow_clash(other[place], other[place + 1]):
            other[place], other[place + 1] = other[place + 1], other[place]
            place += 1
        return way(diary, other)

    def test_interface(self):
        self.assertEqual(list(inspect.signature(way).parameters), ["one", "other"])
        self.assertEqual(way(other=[C, A, B], one=[A, B, C]), [1, 0])

    def test_by_hand(self):
        for one, other, wanted in WAYS:
            with self.subTest(one=one, other=other):
                self.assertEqual(way(one, other), wanted)
                self.assertIs(type(way(one, other)), type(wanted))

    def test_of_a_diary_to_itself(self):
        for diary in some_diaries(11, 60, 12):
            self.assertEqual(way(diary, diary), [])
            self.assertEqual(way(diary, list(diary)), [])

    def test_as_the_slow_way(self):
        seen = set()
        for one, other in some_pairs(111, 120, 11):
            wanted = slow_way(one, other)
            self.assertEqual(way(one, other), wanted)
            seen.add("none" if wanted is None else "passings" if wanted else "equal")
        self.assertEqual(seen, {"none", "passings", "equal"})

    def test_the_places_are_whole_numbers(self):
        for one, other in some_pairs(112, 30, 10):
            self.assertTrue(all(type(place) is int for place in way(one, other) or []))

    def test_it_leads_there_over_as_many_passings_as_pairs_are_turned(self):
        source = random.Random(113)
        longest = 0
        for one in some_diaries(113, 120, 11):
            other = after_passings(source, one, 4 * len(one))
            places = way(one, other)
            self.assertEqual(walked(one, places), other)
            self.assertEqual(len(places), turned_pairs(one, other))
            longest = max(longest, len(places))
        self.assertGreater(longest, 10)

    def test_no_way_has_fewer_passings_and_none_is_missed(self):
        alike, apart = 0, 0
        for one in some_diaries(114, 60, 5):
            found = fewest_passings(one)
            for other in set(itertools.permutations(one)):
                places = way(one, list(other))
                if other in found:
                    self.assertEqual(len(places), found[other])
                    alike += 1
                else:
                    self.assertIsNone(places)
                    apart += 1
        self.assertGreater(alike, 200)
        self.assertGreater(apart, 200)

    def test_both_diaries_stay(self):
        for one, other in some_pairs(115, 40, 9):
            first, second = list(one), list(other)
            way(one, other)
            self.assertEqual(one, first)
            self.assertEqual(other, second)

    def test_a_told_way_stays(self):
        one, other = [A, B, C], [C, B, A]
        told = way(one, other)
        way(other, one).append(7)
        way([A, B], [B, A])
        one.clear()
        other.reverse()
        self.assertEqual(told, [1, 0, 1])

    def test_an_empty_way_is_the_askers_own(self):
        told = way([A], [A])
        told.append(5)
        self.assertEqual(way([A], [A]), [])
        self.assertEqual(way([], []), [])


# Two diaries and the reason, told by hand.
REASONS = (
    ([], [], None),
    ([A], [A], None),
    ([A, B, C], [C, B, A], None),
    ([B, A, C, A], [A, A, C, B], None),
    ([CHANGE_0, A, CHANGE_0], [CHANGE_0, CHANGE_0, A], None),
    ([CHANGE_0, CHANGE_59, LOOK_0], [CHANGE_59, CHANGE_0, LOOK_0], None),
    ([], [A], ("count", A, 0, 1)),
    ([A], [], ("count", A, 1, 0)),
    ([A, A, A], [A], ("count", A, 3, 1)),
    ([A], [A, A, A], ("count", A, 1, 3)),
    ([B], [A], ("count", A, 0, 1)),
    ([A], [B], ("count", A, 1, 0)),
    ([A, C, B], [B, A, D], ("count", C, 1, 0)),
    ([D, B, A], [A, B, C], ("count", C, 0, 1)),
    ([A, B, B], [B, A, A], ("count", A, 1, 2)),
    # The least one by name, then by looks, then by changes, wherever it stands.
    ([deed(9, 0), deed(10, 0)], [], ("count", deed(9, 0), 1, 0)),
    ([deed(10, 0), deed(9, 9, 9)], [], ("count", deed(9, 9, 9), 1, 0)),
    ([deed(5, 10, 1)], [deed(5, 9, 2)], ("count", deed(5, 9, 2), 0, 1)),
    ([deed(5, 9, 10)], [deed(5, 9, 9)], ("count", deed(5, 9, 9), 0, 1)),
    ([deed(10 ** 60 - 1, 0)], [deed(10 ** 60 - 2, 2 ** 60 - 1)], ("count", deed(10 ** 60 - 2, 2 ** 60 - 1), 0, 1)),
    # Counts are asked ahead of turns, also where the turned deeds are less.
    ([LOOK_0, CHANGE_0], [CHANGE_0, LOOK_0, D], ("count", D, 0, 1)),
    ([LOOK_0, CHANGE_0, D, D], [CHANGE_0, LOOK_0, D], ("count", D, 2, 1)),
    ([LOOK_0, CHANGE_0], [CHANGE_0, LOOK_0], ("turned", 0, 1)),
    ([A, LOOK_0, CHANGE_0], [CHANGE_0, LOOK_0, A], ("turned", 1, 2)),
    ([LOOK_0, A, B, CHANGE_0], [CHANGE_0, B, A, LOOK_0], ("turned", 0, 3)),
    # The least p, and then the least q.
    ([CHANGE_0, A, LOOK_0, LOOK_0], [LOOK_0, LOOK_0, A, CHANGE_0], ("turned", 0, 2)),
    ([LOOK_0, CHANGE_59, LOOK_59, CHANGE_0], [LOOK_59, CHANGE_59, CHANGE_0, LOOK_0], ("turned", 0, 3)),
    ([A, CHANGE_59, LOOK_59, LOOK_0, CHANGE_0], [CHANGE_0, LOOK_0, LOOK_59, CHANGE_59, A], ("turned", 1, 2)),
    # Partners of equal deeds are counted in order.
    ([CHANGE_0, LOOK_0, CHANGE_0], [CHANGE_0, CHANGE_0, LOOK_0], ("turned", 1, 2)),
    ([CHANGE_0, LOOK_0, CHANGE_0], [LOOK_0, CHANGE_0, CHANGE_0], ("turned", 0, 1)),
    ([LOOK_0, LOOK_0, CHANGE_0, LOOK_0], [LOOK_0, CHANGE_0, LOOK_0, LOOK_0], ("turned", 1, 2)),
    ([LOOK_0, CHANGE_0, LOOK_0, LOOK_0], [LOOK_0, LOOK_0, CHANGE_0, LOOK_0], ("turned", 1, 2)),
)


class Reason(unittest.TestCase):
    def test_interface(self):
        self.assertEqual(list(inspect.signature(reason).parameters), ["one", "other"])
        self.assertEqual(reason(other=[A], one=[A, A]), ("count", A, 2, 1))

    def test_by_hand(self):
        for one, other, wanted in REASONS:
            with self.subTest(one=one, other=other):
                self.assertEqual(reason(one, other), wanted)
                self.assertIs(type(reason(one, other)), type(wanted))

    def test_kinds(self):
        word, made, here, there = reason([A, B], [A, B, B])
        self.assertEqual([type(part) for part in (word, made, here, there)], [str, tuple, int, int])
        word, p, q = reason([LOOK_0, CHANGE_0], [CHANGE_0, LOOK_0])
        self.assertEqual([type(part) for part in (word, p, q)], [str, int, int])

    def test_as_the_slow_way(self):
        seen = set()
        for one, other in some_pairs(12, 120, 11):
            wanted = slow_reason(one, other)
            self.assertEqual(reason(one, other), wanted)
            seen.add(wanted and wanted[0])
        self.assertEqual(seen, {None, "count", "turned"})

    def test_shuffled_diaries(self):
        source = random.Random(121)
        seen = set()
        for one in some_diaries(121, 200, 9):
            other = list(one)
            source.shuffle(other)
            wanted = slow_reason(one, other)
            self.assertEqual(reason(one, other), wanted)
            seen.add(wanted and wanted[0])
        self.assertEqual(seen, {None, "turned"})

    def test_none_just_where_passings_lead_there(self):
        for one in some_diaries(122, 50, 5):
            found = fewest_passings(one)
            for other in set(itertools.permutations(one)):
                self.assertEqual(reason(one, list(other)) is None, other in found)

    def test_both_diaries_stay(self):
        for one, other in some_pairs(123, 40, 9):
            first, second = list(one), list(other)
            reason(one, other)
            self.assertEqual(one, first)
            self.assertEqual(other, second)

    def test_of_a_diary_and_itself(self):
        for diary in some_diaries(124, 40, 12):
            self.assertIsNone(reason(diary, diary))


class LongDiaries(Refusing, unittest.TestCase):
    def test_backwards_where_none_clash(self):
        diary = [deed(10 ** 60 - 1 - place, 2 ** 60 - 1) for place in range(300)]
        places = way(diary, diary[::-1])
        self.assertEqual(places, [at for place in range(299) for at in range(298, place - 1, -1)])
        self.assertEqual(walked(diary, places), diary[::-1])
        self.assertIsNone(reason(diary, diary[::-1]))

    def test_the_last_two_turned(self):
        diary = [deed(place, 0, 2 ** 59) for place in range(300)]
        other = diary[:298] + [diary[299], diary[298]]
        self.assertIsNone(way(diary, other))
        self.assertEqual(reason(diary, other), ("turned", 298, 299))
        self.assert_refused(NoPass, passed, diary, 298)
        self.assert_refused(NoPass, passed, diary, 299)
        self.assertEqual(way(diary, list(diary)), [])
        self.assertIsNone(reason(diary, list(diary)))

    def test_counts(self):
        diary = [A] * 299 + [B]
        self.assertEqual(reason(diary, [A] * 300), ("count", A, 299, 300))
        self.assertEqual(reason([B] * 300, diary), ("count", A, 0, 299))
        self.assertIsNone(way(diary, [A] * 300))
        self.assertEqual(way(diary, [B] + [A] * 299), list(range(298, -1, -1)))
        self.assertEqual(passed(diary, 298), [A] * 298 + [B, A])

    def test_some_clash(self):
        source = random.Random(125)
        for names, width, density in ((3, 2, 0.2), (10 ** 60, 60, 0.02), (10, 20, 0.05)):
            one = [some_deed(source, names, width, density) for place in range(300)]
            other = after_passings(source, one, 20000)
            places = way(one, other)
            self.assertEqual(places, slow_way(one, other))
            self.assertEqual(walked(one, places), other)
            self.assertIsNone(reason(one, other))
            other.insert(150, other.pop(250))
            other.append(other.pop(0))
            self.assertEqual(way(one, other), slow_way(one, other))
            self.assertEqual(reason(one, other), slow_reason(one, other))


if __name__ == "__main__":
    unittest.main()
