"""Deeds made [2], [3] and deeds that clash [4]."""

import inspect
import random
import unittest

from passby.deeds import clash, deed
from passby.errors import NoBox, NoDeed, NoPass, Nothing, PassbyError
from tests.helper import boxes, slow_clash, some_deed

NAME_BOUND = int("1" + "0" * 60)
BOX_BOUND = 1152921504606846976


class Made(unittest.TestCase):
    def test_interface(self):
        parameters = inspect.signature(deed).parameters
        self.assertEqual(list(parameters), ["name", "looks", "changes"])
        self.assertIs(parameters["name"].default, inspect.Parameter.empty)
        self.assertIs(parameters["looks"].default, inspect.Parameter.empty)
        self.assertEqual(parameters["changes"].default, 0)

    def check(self, made, wanted):
        self.assertIs(type(made), tuple)
        self.assertEqual(made, wanted)
        self.assertEqual([type(part) for part in made], [int, int, int])

    def test_ordinary(self):
        self.check(deed(7, 5, 2), (7, 5, 2))
        self.check(deed(2, 7, 5), (2, 7, 5))

    def test_names_of_up_to_sixty_figures(self):
        for figures in range(1, 61):
            for name in (10 ** (figures - 1), int("7" * figures), 10 ** figures - 1):
                self.check(deed(name, 1, 2), (name, 1, 2))

    def test_looks_and_changes_up_to_the_bound(self):
        for box in range(60):
            number = 2 ** box
            self.check(deed(3, number, 0), (3, number, 0))
            self.check(deed(3, 0, number), (3, 0, number))
            self.check(deed(3, 2 * number - 1, number), (3, 2 * number - 1, number))

    def test_edges(self):
        for name in (0, NAME_BOUND - 1):
            for looks in (0, BOX_BOUND - 1):
                for changes in (0, BOX_BOUND - 1):
                    self.check(deed(name, looks, changes), (name, looks, changes))

    def test_the_bounds_are_those_of_their_place(self):
        self.check(deed(BOX_BOUND, 0, 0), (BOX_BOUND, 0, 0))

    def test_by_name(self):
        self.check(deed(1, 2, changes=4), (1, 2, 4))
        self.check(deed(changes=4, looks=2, name=1), (1, 2, 4))

    def test_changes_left_out(self):
        self.check(deed(8, 3), (8, 3, 0))
        self.check(deed(NAME_BOUND - 1, BOX_BOUND - 1), (NAME_BOUND - 1, BOX_BOUND - 1, 0))

    def test_made_twice_is_equal(self):
        self.assertEqual(deed(8, 3, 1), deed(8, 3, 1))


class Refused(unittest.TestCase):
    NO_WHOLE_NUMBERS = (True, False, None, "", "1", "one", (), (1,), (1, 2, 3), [], [1], {}, {1: 1}, 1.0, 0.5, b"1")

    def refuse(self, *parts):
        for taken in (NoDeed, PassbyError, ValueError):
            with self.assertRaises(taken) as caught:
                deed(*parts)
            self.assertIs(type(caught.exception), NoDeed)
            self.assertNotIsInstance(caught.exception, (NoPass, Nothing, NoBox))

    def refuse_at(self, place, thing):
        for good in ((1, 2, 4), (0, 0, 0), (NAME_BOUND - 1, BOX_BOUND - 1, BOX_BOUND - 1)):
            parts = list(good)
            parts[place] = thing
            with self.subTest(parts=parts):
                self.refuse(*parts)

    def test_no_whole_number(self):
        for place in range(3):
            for thing in self.NO_WHOLE_NUMBERS:
                self.refuse_at(place, thing)

    def test_below_nought(self):
        for place in range(3):
            for thing in (-1, -2, -BOX_BOUND, -NAME_BOUND, 1 - 10 ** 100):
                self.refuse_at(place, thing)

    def test_the_bound_and_above(self):
        for place, bound in ((0, NAME_BOUND), (1, BOX_BOUND), (2, BOX_BOUND)):
            for thing in (bound, bound + 1, 2 * bound, 10 ** 100 - 1):
                self.refuse_at(place, thing)

    def test_without_changes(self):
        for thing in (True, None, "1", [], -1, NAME_BOUND):
            self.refuse(thing, 0)
            self.refuse(0, thing)

    def test_more_than_one_wrong(self):
        self.refuse(None, None, None)
        self.refuse(-1, -1, -1)
        self.refuse(True, "1", [])

    def test_changes_by_name(self):
        for thing in (True, False, None, "0", -1, BOX_BOUND):
            with self.assertRaises(NoDeed):
                deed(1, 1, changes=thing)

    def test_a_refused_list_stays(self):
        for place in range(3):
            thing = [1, 2]
            parts = [1, 1, 1]
            parts[place] = thing
            self.refuse(*parts)
            self.assertEqual(thing, [1, 2])


# How a deed has to do with one box: what it adds to looks and to changes.
HAS_NOT, LOOKS, CHANGES, BOTH = (0, 0), (1, 0), (0, 1), (1, 1)

PAIRS = (
    (HAS_NOT, HAS_NOT, False), (HAS_NOT, LOOKS, False), (HAS_NOT, CHANGES, False),
    (LOOKS, HAS_NOT, False), (LOOKS, LOOKS, False), (LOOKS, CHANGES, True),
    (CHANGES, HAS_NOT, False), (CHANGES, LOOKS, True), (CHANGES, CHANGES, True),
    (BOTH, HAS_NOT, False), (BOTH, LOOKS, True), (BOTH, CHANGES, True), (BOTH, BOTH, True),
    (HAS_NOT, BOTH, False), (LOOKS, BOTH, True), (CHANGES, BOTH, True),
)


class Clash(unittest.TestCase):
    def test_interface(self):
        parameters = inspect.signature(clash).parameters
        self.assertEqual(list(parameters), ["one", "other"])
        self.assertIs(clash(one=(1, 1, 0), other=(1, 0, 1)), True)

    def test_one_box_alone(self):
        for box in range(60):
            for first, second, wanted in PAIRS:
                one = deed(1, first[0] * 2 ** box, first[1] * 2 ** box)
                other = deed(2, second[0] * 2 ** box, second[1] * 2 ** box)
                with self.subTest(box=box, one=one, other=other):
                    self.assertIs(clash(one, other), wanted)
                    self.assertIs(clash(other, one), wanted)

    def test_one_box_beside_others(self):
        # Both look at the next two boxes, and each has to do with one that the other has not.
        for box in range(60):
            near = [(box + step) % 60 for step in (1, 59, 2, 3, 58, 57)]
            both, mine, yours = boxes(*near[:2]), near[2:4], near[4:]
            for first, second, wanted in PAIRS:
                one = deed(1, both + 2 ** mine[0] + first[0] * 2 ** box, 2 ** mine[1] + first[1] * 2 ** box)
                other = deed(1, both + 2 ** yours[0] + second[0] * 2 ** box, 2 ** yours[1] + second[1] * 2 ** box)
                with self.subTest(box=box, one=one, other=other):
                    self.assertIs(clash(one, other), wanted)
                    self.assertIs(clash(other, one), wanted)

    def test_unlike_boxes_do_not_clash(self):
        for box in range(60):
            rest = BOX_BOUND - 1 - 2 ** box
            self.assertIs(clash((1, 2 ** box, 2 ** box), (1, rest, rest)), False)
            self.assertIs(clash((1, rest, rest), (1, 2 ** box, 2 ** box)), False)

    def test_all_boxes(self):
        every = BOX_BOUND - 1
        self.assertIs(clash(deed(0, every), deed(0, every)), False)
        self.assertIs(clash(deed(0, every), deed(0, 0, every)), True)
        self.assertIs(clash(deed(0, 0, every), deed(0, 0, every)), True)
        self.assertIs(clash(deed(0, every, every), deed(0, 0)), False)

    def test_as_the_slow_way_and_the_other_way_about(self):
        source = random.Random(4)
        seen = []
        for turn in range(1500):
            width, density = source.choice([2, 10, 60]), source.choice([0.05, 0.2])
            one, other = some_deed(source, 5, width, density), some_deed(source, 5, width, density)
            answer = clash(one, other)
            self.assertIs(answer, slow_clash(one, other))
            self.assertIs(clash(other, one), answer)
            seen.append(answer)
        self.assertEqual(set(seen), {True, False})

    def test_an_equal_deed(self):
        for looks in (0, 1, 6, 2 ** 59, BOX_BOUND - 1):
            for changes in (0, 1, 6, 2 ** 59, BOX_BOUND - 1):
                self.assertIs(clash(deed(5, looks, changes), deed(5, looks, changes)), changes != 0)

    def test_names_play_no_part(self):
        names = (0, 1, 2, 3, NAME_BOUND - 1)
        for first in names:
            for second in names:
                self.assertIs(clash(deed(first, 1, 2), deed(second, 1, 4)), False)
                self.assertIs(clash(deed(first, 1, 2), deed(second, 2, 0)), True)
                self.assertIs(clash(deed(first, 0, 0), deed(second, 0, 0)), False)


if __name__ == "__main__":
    unittest.main()
