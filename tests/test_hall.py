"""The hall [9]; told lists are the asker's own [1]."""

import inspect
import random
import unittest

from passby.deeds import deed
from passby.errors import Nothing
from passby.hall import Hall
from passby.layers import heights, layers
from tests.helper import OwnLists, Refusing, boxes, slow_heights, slow_layers, some_deed, some_diaries

LOOK_0, CHANGE_0 = deed(1, boxes(0)), deed(2, 0, boxes(0))
LOOK_59, CHANGE_59 = deed(3, boxes(59)), deed(4, 0, boxes(59))
CHANGE_BOTH = deed(5, 0, boxes(0, 59))
IDLE = deed(6, 0)


def filled(diary):
    hall = Hall()
    for made in diary:
        hall.put(made)
    return hall


class ByHand(Refusing, unittest.TestCase):
    def test_interface(self):
        self.assertEqual(list(inspect.signature(Hall).parameters), [])
        hall = Hall()
        self.assertEqual(list(inspect.signature(hall.put).parameters), ["deed"])
        for ask in (hall.back, hall.rounds, hall.many):
            self.assertEqual(list(inspect.signature(ask).parameters), [])
        self.assertEqual(hall.put(deed=CHANGE_0), 0)

    def test_kinds(self):
        hall = Hall()
        for made in (CHANGE_0, LOOK_0, CHANGE_0):
            self.assertIs(type(hall.put(made)), int)
            self.assertIs(type(hall.many()), int)
        self.assertIs(type(hall.rounds()), list)
        self.assertTrue(all(type(row) is list for row in hall.rounds()))
        self.assertIs(type(hall.back()), tuple)

    def test_it_begins_without_deeds(self):
        hall = Hall()
        self.assertEqual(hall.many(), 0)
        self.assertIs(type(hall.many()), int)
        self.assertEqual(hall.rounds(), [])
        self.assertIs(type(hall.rounds()), list)

    def test_put_tells_the_height(self):
        hall = Hall()
        diary = [CHANGE_59, CHANGE_0, CHANGE_0, CHANGE_BOTH, LOOK_59, IDLE, LOOK_59, CHANGE_59]
        self.assertEqual([hall.put(made) for made in diary], [0, 0, 1, 2, 3, 0, 3, 4])
        self.assertEqual(hall.many(), 8)
        self.assertEqual(
            hall.rounds(),
            [[CHANGE_0, CHANGE_59, IDLE], [CHANGE_0], [CHANGE_BOTH], [LOOK_59, LOOK_59], [CHANGE_59]],
        )

    def test_back_tells_the_last_one(self):
        hall = filled([CHANGE_0, LOOK_59, LOOK_0, LOOK_0])
        self.assertEqual(hall.back(), LOOK_0)
        self.assertEqual(hall.rounds(), [[CHANGE_0, LOOK_59], [LOOK_0]])
        self.assertEqual(hall.back(), LOOK_0)
        self.assertEqual(hall.rounds(), [[CHANGE_0, LOOK_59]])
        self.assertEqual(hall.back(), LOOK_59)
        self.assertEqual(hall.back(), CHANGE_0)
        self.assertEqual(hall.many(), 0)
        self.assertEqual(hall.rounds(), [])

    def test_a_deed_taken_back_lifts_nothing(self):
        hall = filled([CHANGE_0])
        self.assertEqual(hall.put(CHANGE_BOTH), 1)
        self.assertEqual(hall.back(), CHANGE_BOTH)
        self.assertEqual(hall.put(CHANGE_59), 0)
        self.assertEqual(hall.put(LOOK_0), 1)
        self.assertEqual(hall.put(LOOK_59), 1)
        self.assertEqual(hall.rounds(), [[CHANGE_0, CHANGE_59], [LOOK_0, LOOK_59]])

    def test_one_of_equal_deeds_is_taken_back(self):
        hall = filled([CHANGE_0, CHANGE_0, CHANGE_0])
        self.assertEqual(hall.back(), CHANGE_0)
        self.assertEqual(hall.rounds(), [[CHANGE_0], [CHANGE_0]])
        self.assertEqual(hall.put(CHANGE_0), 2)

    def test_numbers_at_the_edges(self):
        widest = deed(10 ** 60 - 1, 2 ** 60 - 1, 2 ** 60 - 1)
        hall = Hall()
        self.assertEqual([hall.put(widest), hall.put(deed(0, 0)), hall.put(widest)], [0, 0, 1])
        self.assertEqual(hall.rounds(), [[deed(0, 0), widest], [widest]])
        self.assertEqual(hall.back(), widest)

    def test_back_of_none_is_refused_and_changes_nothing(self):
        hall = Hall()
        for turn in range(3):
            self.assert_refused(Nothing, hall.back)
            self.assertEqual(hall.many(), 0)
            self.assertEqual(hall.rounds(), [])
            self.assertEqual(hall.put(CHANGE_0), 0)
            self.assertEqual(hall.put(LOOK_0), 1)
            self.assertEqual(hall.many(), 2)
            self.assertEqual(hall.rounds(), [[CHANGE_0], [LOOK_0]])
            self.assertEqual([hall.back(), hall.back()], [LOOK_0, CHANGE_0])
            self.assert_refused(Nothing, hall.back)

    def test_asking_changes_nothing(self):
        hall = filled([CHANGE_0, LOOK_0])
        for turn in range(3):
            self.assertEqual(hall.many(), 2)
            self.assertEqual(hall.rounds(), [[CHANGE_0], [LOOK_0]])
        self.assertEqual(hall.put(CHANGE_0), 2)


class Walked(Refusing, unittest.TestCase):
    """Halls beside the diary that is there by then."""

    def compare(self, hall, diary):
        self.assertEqual(hall.many(), len(diary))
        self.assertEqual(hall.rounds(), slow_layers(diary))
        self.assertEqual(hall.rounds(), layers(diary))

    def put(self, hall, diary, made):
        diary.append(made)
        told = hall.put(made)
        self.assertIs(type(told), int)
        self.assertEqual(told, slow_heights(diary)[-1])
        self.assertEqual(told, heights(diary)[-1])

    def take_back(self, hall, diary):
        if diary:
            self.assertEqual(hall.back(), diary.pop())
        else:
            self.assert_refused(Nothing, hall.back)

    def test_drawn_diaries(self):
        for diary in some_diaries(9, 100, 14):
            hall, there = Hall(), []
            for made in diary:
                self.put(hall, there, made)
            self.compare(hall, diary)

    def test_many_orders(self):
        source = random.Random(91)
        for turn in range(60):
            names, width, density = source.choice([1, 4]), source.choice([1, 2, 6]), source.choice([0.2, 0.5])
            hall, diary = Hall(), []
            putting = 0.5
            for step in range(40):
                # Long runs of either kind, so that the hall grows, empties and grows again.
                if source.random() < 0.15:
                    putting = source.choice([0.1, 0.5, 0.9])
                if source.random() < putting:
                    self.put(hall, diary, some_deed(source, names, width, density))
                else:
                    self.take_back(hall, diary)
                if source.random() < 0.4:
                    self.compare(hall, diary)
            self.compare(hall, diary)

    def test_down_to_none_and_up_again(self):
        for one, other in zip(some_diaries(92, 25, 9), some_diaries(93, 25, 9)):
            hall, diary = Hall(), []
            for parts in (one, other, one):
                for made in parts:
                    self.put(hall, diary, made)
                    self.compare(hall, diary)
                while diary:
                    self.take_back(hall, diary)
                    self.compare(hall, diary)
                self.take_back(hall, diary)
                self.compare(hall, diary)

    def test_a_deed_put_and_taken_back_leaves_all_as_it_was(self):
        source = random.Random(94)
        for diary in some_diaries(94, 60, 10):
            hall, there = Hall(), []
            for made in diary:
                visitors = [some_deed(source, 3, 5, 0.5) for turn in range(source.randrange(3))]
                for visitor in visitors:
                    self.put(hall, there, visitor)
                for visitor in visitors:
                    self.take_back(hall, there)
                self.put(hall, there, made)
                self.compare(hall, there)
            self.assertEqual(there, diary)

    def test_two_halls_in_turn(self):
        source = random.Random(95)
        for turn in range(25):
            halls = [(Hall(), []), (Hall(), [])]
            for step in range(24):
                hall, diary = halls[step % 2]
                if source.random() < 0.65:
                    self.put(hall, diary, some_deed(source, 2, 2, 0.5))
                else:
                    self.take_back(hall, diary)
                for hall, diary in halls:
                    self.compare(hall, diary)

    def test_a_full_hall_says_nothing_to_a_new_one(self):
        full = filled([CHANGE_0, CHANGE_0])
        new = Hall()
        self.assertEqual(new.many(), 0)
        self.assertEqual(new.rounds(), [])
        self.assert_refused(Nothing, new.back)
        self.assertEqual(new.put(CHANGE_0), 0)
        self.assertEqual(full.rounds(), [[CHANGE_0], [CHANGE_0]])
        self.assertEqual(full.many(), 2)


class Rounds(OwnLists, unittest.TestCase):
    diary = [CHANGE_0, CHANGE_59, LOOK_0, CHANGE_BOTH]

    def tell(self, diary):
        return filled(diary).rounds()

    def test_changing_told_rounds_changes_nothing_in_the_hall(self):
        for diary in some_diaries(96, 40, 10) + [[], self.diary]:
            hall = filled(diary)
            told = hall.rounds()
            for row in told:
                row.reverse()
                row.append(CHANGE_BOTH)
                row.pop(0)
            told.append([IDLE])
            told.reverse()
            self.assertEqual(hall.rounds(), slow_layers(diary))
            told.clear()
            self.assertEqual(hall.many(), len(diary))
            self.assertEqual(hall.put(CHANGE_BOTH), slow_heights(diary + [CHANGE_BOTH])[-1])
            self.assertEqual(hall.rounds(), slow_layers(diary + [CHANGE_BOTH]))
            self.assertEqual([hall.back() for place in range(len(diary) + 1)], [CHANGE_BOTH] + diary[::-1])

    def test_nothing_done_later_changes_told_rounds(self):
        hall = filled(self.diary)
        told = hall.rounds()
        kept = repr(told)
        hall.put(LOOK_0)
        hall.put(IDLE)
        self.assertEqual(repr(told), kept)
        hall.rounds()[0].clear()
        while hall.many() > 0:
            hall.back()
        self.assertEqual(repr(told), kept)
        hall.put(CHANGE_59)
        self.assertEqual(repr(told), kept)

    def test_nothing_done_later_changes_empty_rounds(self):
        hall = Hall()
        told = hall.rounds()
        hall.put(CHANGE_0)
        self.assertEqual(told, [])
        told.append([LOOK_0])
        self.assertEqual(hall.rounds(), [[CHANGE_0]])
        self.assertEqual(Hall().rounds(), [])

    def test_the_inner_lists_are_new_each_time(self):
        hall = filled(self.diary)
        first, second = hall.rounds(), hall.rounds()
        self.assertEqual(first, second)
        self.assertEqual(len({id(row) for row in first + second}), len(first) + len(second))


class LongHall(Refusing, unittest.TestCase):
    def walk(self, diary):
        self.assertEqual(len(diary), 300)
        wanted = slow_heights(diary)
        hall = Hall()
        self.assertEqual([hall.put(made) for made in diary], wanted)
        self.assertEqual(hall.many(), 300)
        self.assertEqual(hall.rounds(), slow_layers(diary))
        self.assertEqual([hall.back() for turn in range(150)], diary[:149:-1])
        self.assertEqual(hall.many(), 150)
        self.assertEqual(hall.rounds(), slow_layers(diary[:150]))
        self.assertEqual([hall.put(made) for made in diary[150:]], wanted[150:])
        self.assertEqual([hall.back() for turn in range(300)], diary[::-1])
        self.assertEqual(hall.rounds(), [])
        self.assert_refused(Nothing, hall.back)

    def test_all_clash(self):
        self.walk([deed(10 ** 60 - 1 - place, 0, 2 ** 59) for place in range(300)])

    def test_none_clash(self):
        self.walk([deed(10 ** 60 - 1 - place, 2 ** 60 - 1) for place in range(300)])

    def test_some_clash(self):
        source = random.Random(97)
        for names, width, density in ((3, 2, 0.2), (10 ** 60, 60, 0.02), (10, 20, 0.05)):
            self.walk([some_deed(source, names, width, density) for place in range(300)])


if __name__ == "__main__":
    unittest.main()
