"""Diaries done [13]; told lists are the asker's own [1], and numbers have as many figures as they need [2]."""

import inspect
import random
import unittest

from passby.boxes import done
from passby.deeds import deed
from passby.errors import NoBox
from tests.helper import Refusing, boxes, slow_done, some_deed, some_diaries

SIXTY_NINES = 10 ** 60 - 1

# A diary, contents, what the deeds say and the contents behind them, told by hand.
TOLD = (
    ([], [], [], []),
    ([], [3, -4], [], [3, -4]),
    # No boxes: the name alone is said.
    ([deed(7, 0)], [], [7], []),
    ([deed(7, 0), deed(0, 0)], [1, 2], [7, 0], [1, 2]),
    # Box k counts k + 1 times.
    ([deed(0, boxes(0))], [5, 6, 7], [5], [5, 6, 7]),
    ([deed(0, boxes(1))], [5, 6, 7], [12], [5, 6, 7]),
    ([deed(0, boxes(2))], [5, 6, 7], [21], [5, 6, 7]),
    ([deed(100, boxes(0, 1, 2))], [5, 6, 7], [138], [5, 6, 7]),
    # A changed box holds what was said and its number, whatever it held.
    ([deed(9, 0, boxes(0))], [5, 6, 7], [9], [9, 6, 7]),
    ([deed(9, 0, boxes(0, 2))], [5, 6, 7], [9], [9, 6, 11]),
    ([deed(9, boxes(1), boxes(0, 2))], [5, 6, 7], [21], [21, 6, 23]),
    # Looked at ahead of being changed, by the same deed.
    ([deed(9, boxes(1), boxes(1))], [5, 6], [21], [5, 22]),
    ([deed(1, boxes(0, 1), boxes(0, 1))], [5, 6], [18], [18, 19]),
    ([deed(1, boxes(0), boxes(0))] * 3, [5], [6, 7, 8], [8]),
    ([deed(1, boxes(1), boxes(1))] * 3, [0, 0], [1, 5, 13], [0, 14]),
    # Each in its turn: what one changed, a later one looks at.
    ([deed(10, 0, boxes(1)), deed(20, boxes(1), boxes(0)), deed(30, boxes(0, 1))], [0, 0], [10, 42, 94], [42, 11]),
    ([deed(30, boxes(0, 1)), deed(20, boxes(1), boxes(0)), deed(10, 0, boxes(1))], [0, 0], [30, 20, 10], [20, 11]),
    # Contents below 0.
    ([deed(2, boxes(0, 1), boxes(1))], [-5, -6], [-15], [-5, -14]),
    ([deed(0, boxes(0))], [-1], [-1], [-1]),
    ([deed(0, boxes(0), boxes(0))], [-1, 8], [-1], [-1, 8]),
    # The last box.
    ([deed(1, boxes(59), boxes(59))], [0] * 59 + [2], [121], [0] * 59 + [180]),
    # Sixty figures.
    ([deed(SIXTY_NINES, boxes(0))], [SIXTY_NINES], [2 * SIXTY_NINES], [SIXTY_NINES]),
    ([deed(0, boxes(1), boxes(1))], [1, -SIXTY_NINES], [-2 * SIXTY_NINES], [1, 1 - 2 * SIXTY_NINES]),
)


class Done(unittest.TestCase):
    def test_interface(self):
        self.assertEqual(list(inspect.signature(done).parameters), ["diary", "contents"])
        self.assertEqual(done(contents=[5], diary=[deed(1, 1)]), ([6], [5]))

    def test_by_hand(self):
        for diary, contents, said, left in TOLD:
            with self.subTest(diary=diary, contents=contents):
                self.assertEqual(done(diary, contents), (said, left))

    def test_kinds(self):
        for diary, contents, said, left in TOLD:
            told = done(diary, contents)
            self.assertIs(type(told), tuple)
            self.assertEqual([type(part) for part in told], [list, list])
            self.assertTrue(all(type(number) is int for part in told for number in part))
            self.assertEqual([len(part) for part in told], [len(diary), len(contents)])

    def test_each_box_alone(self):
        for box in range(60):
            contents = [1000 + k for k in range(box + 1)]
            said, left = done([deed(7, 2 ** box, 2 ** box)], contents)
            self.assertEqual(said, [7 + (box + 1) * (1000 + box)])
            self.assertEqual(left, contents[:box] + [said[0] + box])

    def test_all_boxes(self):
        every = 2 ** 60 - 1
        said, left = done([deed(5, every, every)], [1] * 60)
        self.assertEqual(said, [5 + 1830])
        self.assertEqual(left, [1835 + box for box in range(60)])

    def test_as_the_slow_way(self):
        source = random.Random(13)
        for diary in some_diaries(13, 150, 12):
            bound = source.choice([2, 1000, 10 ** 60])
            contents = [source.randrange(1 - bound, bound) for box in range(60)]
            self.assertEqual(done(diary, contents), slow_done(diary, contents))

    def test_as_many_figures_as_they_need(self):
        # 300 times over, the last box is taken sixtyfold: over five hundred figures.
        for name, content in ((SIXTY_NINES, SIXTY_NINES), (0, -SIXTY_NINES), (3, 0)):
            said, left = done([deed(name, 2 ** 59, 2 ** 59)] * 300, [4] * 59 + [content])
            wanted, now = [], content
            for turn in range(300):
                wanted.append(name + 60 * now)
                now = wanted[-1] + 59
            self.assertTrue(said == wanted)
            self.assertTrue(left == [4] * 59 + [now])
            self.assertGreater(abs(now), 10 ** 500)

    def test_a_long_diary(self):
        source = random.Random(131)
        for names, width, density in ((3, 2, 0.2), (10 ** 60, 60, 0.02), (10, 20, 0.05), (1, 60, 0.5)):
            diary = [some_deed(source, names, width, density) for place in range(300)]
            contents = [source.randrange(-10 ** 60, 10 ** 60) for box in range(60)]
            self.assertTrue(done(diary, contents) == slow_done(diary, contents))


class Refused(Refusing, unittest.TestCase):
    def refuse(self, diary, contents):
        before = list(diary), list(contents)
        self.assert_refused(NoBox, done, diary, contents)
        self.assertEqual((diary, contents), before)

    def test_no_contents(self):
        for box in range(60):
            self.refuse([deed(1, 2 ** box)], [])
            self.refuse([deed(1, 0, 2 ** box)], [])

    def test_the_first_box_that_is_not_there(self):
        for box in range(60):
            contents = list(range(box))
            self.refuse([deed(1, 2 ** box)], contents)
            self.refuse([deed(1, 0, 2 ** box)], contents)
            self.refuse([deed(1, 2 ** box, 2 ** box)], contents)
            self.assertEqual(done([deed(1, 0, 2 ** box)], contents + [0]), ([1], contents + [1 + box]))

    def test_far_boxes_among_those_that_are_there(self):
        self.refuse([deed(1, boxes(0, 59))], [1, 2, 3])
        self.refuse([deed(1, boxes(0), boxes(1, 59))], [1, 2, 3])
        self.refuse([deed(1, boxes(0, 59), boxes(0))], [1, 2, 3])
        self.refuse([deed(1, boxes(59))], [0] * 59)

    def test_a_later_deed(self):
        good = deed(1, boxes(0), boxes(0, 1))
        self.assertEqual(done([good, good], [1, 1]), ([2, 3], [3, 4]))
        for wrong in (deed(2, boxes(2)), deed(2, 0, boxes(2)), deed(2, boxes(0, 59), boxes(1))):
            for diary in ([good, wrong], [wrong, good], [good, good, wrong, good], [good] * 299 + [wrong]):
                self.refuse(diary, [1, 1])

    def test_drawn_diaries(self):
        source = random.Random(132)
        seen = []
        for diary in some_diaries(132, 200, 6):
            contents = [source.randrange(-9, 10) for box in range(source.randrange(61))]
            wanted = slow_done(diary, contents)
            if wanted is None:
                self.refuse(diary, contents)
            else:
                self.assertEqual(done(diary, contents), wanted)
            seen.append(wanted is None)
        self.assertEqual(set(seen), {True, False})


class OwnDone(unittest.TestCase):
    def test_nothing_handed_in_is_changed(self):
        for diary in some_diaries(133, 60, 10):
            contents = list(range(-30, 30))
            before = list(diary)
            done(diary, contents)
            self.assertEqual(diary, before)
            self.assertEqual(contents, list(range(-30, 30)))

    def test_changing_told_lists_changes_nothing(self):
        for diary, contents, said, left in TOLD:
            before = list(diary), list(contents)
            first, second = done(diary, contents)
            first.append(1)
            second.append(2)
            first.reverse()
            second.reverse()
            self.assertEqual((diary, contents), before)
            self.assertEqual(done(diary, contents), (said, left))
            first.clear()
            second.clear()
            self.assertEqual((diary, contents), before)
            self.assertEqual(done(diary, contents), (said, left))

    def test_nothing_done_later_changes_told_lists(self):
        diary, contents = [deed(1, 1, 1), deed(2, 0)], [5, 6]
        told = done(diary, contents)
        kept = repr(told)
        done(diary, told[1])
        done(diary, contents)[1].clear()
        done([], contents)[1].clear()
        contents.reverse()
        contents.clear()
        diary.clear()
        self.assertEqual(repr(told), kept)

    def test_the_contents_are_a_new_list_also_where_none_is_changed(self):
        for diary in ([], [deed(1, 0)], [deed(1, 1)]):
            contents = [5]
            said, left = done(diary, contents)
            self.assertIsNot(left, contents)
            self.assertIsNot(said, left)
            contents.append(6)
            self.assertEqual(left, [5])


if __name__ == "__main__":
    unittest.main()
