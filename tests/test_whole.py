"""What the points say of one another, over the whole program, and the names and arguments of the interface."""

import importlib
import inspect
import random
import unittest

from passby.boxes import done
from passby.deeds import clash, deed
from passby.hall import Hall
from passby.layers import chain, heights, layers
from passby.ways import passed, reason, way
from tests.helper import after_passings, partner, some_deed, some_diaries, some_pairs

INTERFACE = {
    "passby.errors": {"PassbyError": None, "NoDeed": None, "NoPass": None, "Nothing": None, "NoBox": None},
    "passby.deeds": {"deed": ["name", "looks", "changes"], "clash": ["one", "other"]},
    "passby.layers": {"heights": ["diary"], "layers": ["diary"], "chain": ["diary"]},
    "passby.hall": {"Hall": []},
    "passby.ways": {"passed": ["diary", "place"], "way": ["one", "other"], "reason": ["one", "other"]},
    "passby.boxes": {"done": ["diary", "contents"]},
}

METHODS = {"put": ["self", "deed"], "back": ["self"], "rounds": ["self"], "many": ["self"]}


class Interface(unittest.TestCase):
    def test_each_name_is_there_with_its_arguments(self):
        for module, names in INTERFACE.items():
            for name, arguments in names.items():
                found = getattr(importlib.import_module(module), name)
                self.assertEqual(found.__module__, module)
                self.assertEqual(inspect.isclass(found), arguments is None or name == "Hall")
                if arguments is not None:
                    self.assertEqual(list(inspect.signature(found).parameters), arguments)

    def test_the_halls_methods(self):
        for name, arguments in METHODS.items():
            self.assertEqual(list(inspect.signature(getattr(Hall, name)).parameters), arguments)


def one_behind_the_other(rows):
    return [made for row in rows for made in row]


class AlikeOrApart(unittest.TestCase):
    def test_layers_way_and_reason_agree(self):
        seen = []
        for one, other in some_pairs(100, 150, 12):
            alike = layers(one) == layers(other)
            self.assertIs(way(one, other) is not None, alike)
            self.assertIs(reason(one, other) is None, alike)
            seen.append(alike)
        self.assertGreater(seen.count(True), 500)
        self.assertGreater(seen.count(False), 500)

    def test_passings_keep_diaries_alike(self):
        source = random.Random(101)
        for one in some_diaries(101, 100, 14):
            other = after_passings(source, one, 60)
            self.assertEqual(layers(one), layers(other))
            self.assertIsNone(reason(one, other))
            self.assertIsNotNone(way(one, other))
            self.assertEqual(len(chain(one)), len(chain(other)))

    def test_the_way_back_is_as_long(self):
        source = random.Random(102)
        for one in some_diaries(102, 60, 12):
            other = after_passings(source, one, 60)
            self.assertEqual(len(way(one, other)), len(way(other, one)))

    def test_layers_one_behind_the_other_are_alike(self):
        for diary in some_diaries(103, 120, 14):
            other = one_behind_the_other(layers(diary))
            self.assertIsNone(reason(diary, other))
            now = diary
            for place in way(diary, other):
                now = passed(now, place)
            self.assertEqual(now, other)
            self.assertEqual(layers(other), layers(diary))

    def test_no_two_of_a_layer_clash(self):
        for diary in some_diaries(104, 60, 14):
            for row in layers(diary):
                self.assertFalse(any(clash(one, row[k]) for place, one in enumerate(row) for k in range(place)))


class HallAndDiary(unittest.TestCase):
    def test_heights_and_rounds(self):
        for diary in some_diaries(105, 80, 14):
            hall = Hall()
            self.assertEqual([hall.put(made) for made in diary], heights(diary))
            self.assertEqual(hall.rounds(), layers(diary))

    def test_alike_diaries_fill_a_hall_alike(self):
        source = random.Random(106)
        for one in some_diaries(106, 60, 12):
            first, second = Hall(), Hall()
            for made, passing in zip(one, after_passings(source, one, 50)):
                first.put(made)
                second.put(passing)
            self.assertEqual(first.rounds(), second.rounds())


class DoneAlike(unittest.TestCase):
    def compare(self, one, other, contents):
        said_here, left_here = done(one, contents)
        said_there, left_there = done(other, contents)
        self.assertTrue(left_here == left_there)
        for place in range(len(one)):
            self.assertTrue(said_here[place] == said_there[partner(one, other, place)])

    def test_alike_diaries_leave_the_same_and_say_the_same(self):
        source = random.Random(107)
        moved = 0
        for one in some_diaries(107, 150, 12):
            contents = [source.randrange(-10 ** 60, 10 ** 60) for box in range(60)]
            other = after_passings(source, one, 60)
            self.compare(one, other, contents)
            self.compare(one, one_behind_the_other(layers(one)), contents)
            moved += one != other
        self.assertGreater(moved, 50)

    def test_a_turned_diary_may_tell_another_day(self):
        one = [deed(1, 0, 1), deed(2, 1)]
        self.assertEqual(reason(one, one[::-1]), ("turned", 0, 1))
        self.assertEqual(done(one, [9]), ([1, 3], [1]))
        self.assertEqual(done(one[::-1], [9]), ([11, 1], [1]))

    def test_long_diaries(self):
        source = random.Random(108)
        for names, width, density in ((3, 2, 0.2), (10 ** 60, 60, 0.02), (10, 20, 0.05)):
            one = [some_deed(source, names, width, density) for place in range(300)]
            other = after_passings(source, one, 20000)
            self.assertEqual(layers(one), layers(other))
            self.assertIsNone(reason(one, other))
            self.compare(one, other, list(range(-30, 30)))
            other.pop(299)
            self.assertNotEqual(layers(one), layers(other))
            self.assertIsNone(way(one, other))


class NothingKept(unittest.TestCase):
    def test_asked_twice_in_either_order_the_answers_are_the_same(self):
        pairs = some_pairs(109, 25, 8)
        contents = list(range(60))

        def tell(pair):
            one, other = pair
            hall = Hall()
            lifts = [hall.put(made) for made in one]
            return repr(
                [lifts, hall.rounds(), heights(one), layers(one), chain(one), way(one, other), reason(one, other)]
                + [done(one, contents), one, other]
            )

        forwards = [tell(pair) for pair in pairs]
        backwards = [tell(pair) for pair in pairs[::-1]]
        self.assertEqual(forwards, backwards[::-1])


if __name__ == "__main__":
    unittest.main()
