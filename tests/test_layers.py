"""Heights [6], layers [7] and the chain [8]; told lists are the asker's own [1]."""

import inspect
import random
import unittest

from passby.deeds import clash, deed
from passby.layers import chain, heights, layers
from tests.helper import OwnLists, boxes, slow_chain, slow_heights, slow_layers, some_deed, some_diaries

# Deeds of box 0 and of box 59, and one of no box.
LOOK_0, CHANGE_0 = deed(1, boxes(0)), deed(2, 0, boxes(0))
LOOK_59, CHANGE_59 = deed(3, boxes(59)), deed(4, 0, boxes(59))
CHANGE_BOTH = deed(5, 0, boxes(0, 59))
IDLE = deed(6, 0)

# Each diary with its heights, layers and chain, told by hand.
TOLD = (
    ([], [], [], []),
    ([IDLE], [0], [[IDLE]], [0]),
    ([CHANGE_0], [0], [[CHANGE_0]], [0]),
    ([LOOK_0] * 3, [0, 0, 0], [[LOOK_0] * 3], [0]),
    ([CHANGE_0] * 3, [0, 1, 2], [[CHANGE_0], [CHANGE_0], [CHANGE_0]], [0, 1, 2]),
    ([CHANGE_59, LOOK_0, CHANGE_0], [0, 0, 1], [[LOOK_0, CHANGE_59], [CHANGE_0]], [1, 2]),
    ([LOOK_0, CHANGE_0, LOOK_0], [0, 1, 2], [[LOOK_0], [CHANGE_0], [LOOK_0]], [0, 1, 2]),
    ([CHANGE_0, LOOK_59, LOOK_0, LOOK_0], [0, 0, 1, 1], [[CHANGE_0, LOOK_59], [LOOK_0, LOOK_0]], [0, 2]),
    (
        [CHANGE_59, CHANGE_0, CHANGE_0, CHANGE_BOTH, LOOK_59, IDLE],
        [0, 0, 1, 2, 3, 0],
        [[CHANGE_0, CHANGE_59, IDLE], [CHANGE_0], [CHANGE_BOTH], [LOOK_59]],
        [1, 2, 3, 4],
    ),
)


class ByHand(unittest.TestCase):
    def test_heights(self):
        for diary, told, rows, places in TOLD:
            self.assertEqual(heights(diary), told)

    def test_layers(self):
        for diary, told, rows, places in TOLD:
            self.assertEqual(layers(diary), rows)

    def test_chain(self):
        for diary, told, rows, places in TOLD:
            self.assertEqual(chain(diary), places)

    def test_interface(self):
        for tell in (heights, layers, chain):
            self.assertEqual(list(inspect.signature(tell).parameters), ["diary"])
            tell(diary=[IDLE])


class Heights(OwnLists, unittest.TestCase):
    diary = [CHANGE_0, LOOK_0, CHANGE_BOTH]

    def tell(self, diary):
        return heights(diary)

    def test_as_the_slow_way(self):
        for diary in some_diaries(6, 250, 14):
            self.assertEqual(heights(diary), slow_heights(diary))

    def test_one_whole_number_for_each_place(self):
        for diary in some_diaries(61, 60, 14):
            told = heights(diary)
            self.assertEqual(len(told), len(diary))
            self.assertTrue(all(type(height) is int for height in told))

    def test_a_beginning_has_the_beginning_of_the_heights(self):
        for diary in some_diaries(62, 40, 14):
            told = heights(diary)
            for length in range(len(diary) + 1):
                self.assertEqual(heights(diary[:length]), told[:length])

    def test_the_greatest_clashing_height_counts_and_not_the_last(self):
        diary = [CHANGE_0, CHANGE_0, CHANGE_0, CHANGE_59, CHANGE_BOTH]
        self.assertEqual(heights(diary), [0, 1, 2, 0, 3])

    def test_a_higher_deed_that_does_not_clash_lifts_nothing(self):
        self.assertEqual(heights([CHANGE_0, CHANGE_0, CHANGE_59, LOOK_59]), [0, 1, 0, 1])

    def test_a_deed_behind_lifts_nothing(self):
        self.assertEqual(heights([LOOK_0, LOOK_0, CHANGE_0]), [0, 0, 1])

    def test_looking_alone_lifts_nothing(self):
        every = 2 ** 60 - 1
        self.assertEqual(heights([deed(1, every), deed(1, every), deed(2, every)]), [0, 0, 0])


class Layers(OwnLists, unittest.TestCase):
    diary = [CHANGE_0, CHANGE_59, LOOK_0, CHANGE_BOTH]

    def tell(self, diary):
        return layers(diary)

    def test_as_the_slow_way(self):
        for diary in some_diaries(7, 250, 14):
            self.assertEqual(layers(diary), slow_layers(diary))

    def test_lists_of_the_deeds_and_none_empty(self):
        for diary in some_diaries(71, 100, 14):
            rows = layers(diary)
            self.assertTrue(all(type(row) is list and len(row) > 0 for row in rows))
            self.assertEqual(sorted(made for row in rows for made in row), sorted(diary))
            self.assertTrue(all(type(made) is tuple for row in rows for made in row))

    def test_sorted_by_name_then_looks_then_changes(self):
        # No two of them clash: the changed boxes are looked at by none and changed by one each.
        row = [
            (0, 7, 2 ** 10), (0, 7, 2 ** 11), (0, 8, 2 ** 9), (2, 0, 2 ** 12), (2, 1, 0), (2, 1, 2 ** 8),
            (2, 3, 2 ** 7), (10, 0, 0), (10, 1, 0), (10, 2, 0), (10 ** 60 - 1, 0, 2 ** 59), (10 ** 60 - 1, 2, 0),
        ]
        source = random.Random(72)
        for turn in range(30):
            diary = list(row)
            source.shuffle(diary)
            self.assertEqual(layers(diary), [row])

    def test_equal_deeds_as_often_as_they_come(self):
        self.assertEqual(layers([LOOK_59, LOOK_0, LOOK_59, LOOK_0, LOOK_59]), [[LOOK_0] * 2 + [LOOK_59] * 3])
        self.assertEqual(
            layers([CHANGE_0, LOOK_0, LOOK_59, LOOK_0, CHANGE_0, LOOK_0]),
            [[CHANGE_0, LOOK_59], [LOOK_0, LOOK_0], [CHANGE_0], [LOOK_0]],
        )

    def test_the_inner_lists_are_the_askers_own(self):
        first = layers(self.diary)
        kept = repr(first)
        second = layers(self.diary)
        for row in second:
            row.reverse()
            row.append("mine")
        second[0].clear()
        self.assertEqual(repr(first), kept)
        self.assertEqual(repr(layers(self.diary)), kept)
        self.assertEqual(len({id(row) for row in first}), len(first))


class Chain(OwnLists, unittest.TestCase):
    diary = [CHANGE_59, CHANGE_0, LOOK_0, CHANGE_BOTH]

    def tell(self, diary):
        return chain(diary)

    def test_as_the_slow_way(self):
        for diary in some_diaries(8, 250, 14):
            self.assertEqual(chain(diary), slow_chain(diary))

    def test_one_place_for_each_layer_rising_and_clashing(self):
        for diary in some_diaries(81, 150, 14):
            places = chain(diary)
            told = heights(diary)
            self.assertTrue(all(type(place) is int for place in places))
            self.assertEqual(len(places), len(layers(diary)))
            self.assertEqual([told[place] for place in places], list(range(len(places))))
            for one, other in zip(places, places[1:]):
                self.assertLess(one, other)
                self.assertIs(clash(diary[one], diary[other]), True)

    def test_the_last_is_the_first_of_the_greatest_height(self):
        self.assertEqual(chain([IDLE, LOOK_0, CHANGE_59]), [0])
        self.assertEqual(chain([CHANGE_59, CHANGE_0, LOOK_0, LOOK_59, LOOK_0]), [1, 2])

    def test_the_first_that_clashes_stands_ahead(self):
        self.assertEqual(chain([LOOK_0, LOOK_0, CHANGE_0]), [0, 2])
        self.assertEqual(chain([LOOK_59, LOOK_0, LOOK_0, CHANGE_0]), [1, 3])

    def test_an_earlier_place_of_the_height_that_does_not_clash_is_left(self):
        self.assertEqual(chain([CHANGE_59, IDLE, CHANGE_0, CHANGE_0]), [2, 3])
        diary = [CHANGE_0, CHANGE_59, LOOK_0, LOOK_59, CHANGE_59]
        self.assertEqual(heights(diary), [0, 0, 1, 1, 2])
        self.assertEqual(chain(diary), [1, 3, 4])

    def test_an_earlier_clashing_place_of_a_lower_height_is_left(self):
        # Place 0 clashes with the last deed too, but lies two below it.
        diary = [CHANGE_BOTH, CHANGE_59, CHANGE_BOTH]
        self.assertEqual(chain(diary), [0, 1, 2])
        self.assertEqual(chain([CHANGE_59, CHANGE_0, CHANGE_0, CHANGE_BOTH]), [1, 2, 3])


class LongDiary(unittest.TestCase):
    def compare(self, diary):
        before = list(diary)
        self.assertEqual(len(diary), 300)
        self.assertEqual(heights(diary), slow_heights(diary))
        self.assertEqual(layers(diary), slow_layers(diary))
        self.assertEqual(chain(diary), slow_chain(diary))
        self.assertEqual(diary, before)

    def test_all_clash(self):
        diary = [deed(10 ** 60 - 1 - place, 0, 2 ** 59) for place in range(300)]
        self.assertEqual(heights(diary), list(range(300)))
        self.assertEqual(layers(diary), [[made] for made in diary])
        self.assertEqual(chain(diary), list(range(300)))

    def test_none_clash(self):
        diary = [deed(10 ** 60 - 1 - place, 2 ** 60 - 1) for place in range(300)]
        self.assertEqual(heights(diary), [0] * 300)
        self.assertEqual(layers(diary), [diary[::-1]])
        self.assertEqual(chain(diary), [0])

    def test_some_clash(self):
        source = random.Random(300)
        for names, width, density in ((3, 2, 0.2), (10 ** 60, 60, 0.02), (10, 20, 0.05), (1, 5, 0.5)):
            self.compare([some_deed(source, names, width, density) for place in range(300)])


if __name__ == "__main__":
    unittest.main()
