import unittest

from mustmay.doors import Door, May, Must, Shut, Torn, door_of

KINDS = [Must, May, Shut, Torn]

# kind, word, needs, allows, to when made for room 4
ROWS = [
    (Must, "must", True, True, 4),
    (May, "may", False, True, 4),
    (Shut, "shut", False, False, None),
    (Torn, "torn", True, False, None),
]


def by_class(kind):
    return kind(4) if kind in (Must, May) else kind()


class DoorsTest(unittest.TestCase):
    def check_door(self, door, kind, word, needs, allows, to):
        self.assertIsInstance(door, Door)
        for other in KINDS:
            self.assertIs(isinstance(door, other), other is kind)
        self.assertEqual(door.word(), word)
        self.assertIs(door.needs(), needs)
        self.assertIs(door.allows(), allows)
        self.assertEqual(door.to, to)
        told = door.told()
        self.assertIsInstance(told, tuple)
        self.assertEqual(told, (word, to))

    def test_by_class(self):
        for kind, word, needs, allows, to in ROWS:
            with self.subTest(word=word):
                self.check_door(by_class(kind), kind, word, needs, allows, to)

    def test_by_door_of(self):
        for kind, word, needs, allows, to in ROWS:
            with self.subTest(word=word):
                self.check_door(door_of(needs, allows, 4), kind, word, needs, allows, to)

    def test_room_0(self):
        self.check_door(Must(0), Must, "must", True, True, 0)
        self.check_door(May(0), May, "may", False, True, 0)
        self.check_door(door_of(True, True, 0), Must, "must", True, True, 0)
        self.check_door(door_of(False, True, 0), May, "may", False, True, 0)

    def test_door_of_looks_at_no_room_where_the_door_leads_nowhere(self):
        for to in (None, 0, -1, 2000, "room"):
            self.check_door(door_of(False, False, to), Shut, "shut", False, False, None)
            self.check_door(door_of(True, False, to), Torn, "torn", True, False, None)

    def test_led(self):
        for kind, word, needs, allows, to in ROWS:
            for room in (0, 9):
                with self.subTest(word=word, room=room):
                    door = by_class(kind)
                    led = door.led(room)
                    self.assertIsNot(led, door)
                    self.check_door(led, kind, word, needs, allows, None if to is None else room)
                    self.check_door(door, kind, word, needs, allows, to)

    def test_told_is_new_each_time(self):
        for kind in KINDS:
            door = by_class(kind)
            first = door.told()
            second = door.told()
            self.assertEqual(first, second)
            self.assertIsNot(first, second)

    def test_four_classes_stand_straight_under_door(self):
        for kind in KINDS:
            self.assertEqual(kind.__bases__, (Door,))


if __name__ == "__main__":
    unittest.main()
