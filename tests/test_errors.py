import unittest

from mustmay import errors

WITH_TEXT = [errors.Unlike, errors.TooMany, errors.NoLine]
WITH_NAME = [errors.NoName, errors.NameThere, errors.InUse]
WITH_NUMBER = [(errors.NoText, "line"), (errors.NoWay, "at"), (errors.NoWish, "place")]
ALL = WITH_TEXT + WITH_NAME + [kind for kind, field in WITH_NUMBER] + [errors.BadPlan]


class ErrorsTest(unittest.TestCase):
    def test_hall_error_stands_straight_under_value_error(self):
        self.assertEqual(errors.HallError.__bases__, (ValueError,))

    def test_ten_classes_straight_under_hall_error(self):
        self.assertEqual(len(set(ALL)), 10)
        for kind in ALL:
            with self.subTest(kind=kind.__name__):
                self.assertEqual(kind.__bases__, (errors.HallError,))

    def test_none_under_another_one(self):
        for kind in ALL:
            for other in ALL:
                if kind is not other:
                    self.assertFalse(issubclass(kind, other), (kind, other))

    def test_bad_plan_has_room_and_action(self):
        error = errors.BadPlan(3, -1)
        self.assertEqual((error.room, error.action), (3, -1))
        error = errors.BadPlan(room=0, action=7)
        self.assertEqual((error.room, error.action), (0, 7))

    def test_number_fields(self):
        for kind, field in WITH_NUMBER:
            for number in (0, 12):
                with self.subTest(kind=kind.__name__, number=number):
                    self.assertEqual(getattr(kind(number), field), number)
                    self.assertEqual(getattr(kind(**{field: number}), field), number)

    def test_name_fields(self):
        for kind in WITH_NAME:
            with self.subTest(kind=kind.__name__):
                self.assertEqual(kind("idle").name, "idle")
                self.assertEqual(kind(name="12").name, "12")

    def test_those_with_a_text_have_no_fields(self):
        for kind in WITH_TEXT:
            with self.subTest(kind=kind.__name__):
                error = kind("too much of it")
                self.assertIn("too much of it", str(error))
                self.assertEqual(vars(error), {})

    def test_each_is_taken_as_hall_error(self):
        made = [errors.BadPlan(0, 0)]
        made += [kind(1) for kind, field in WITH_NUMBER]
        made += [kind("a") for kind in WITH_NAME + WITH_TEXT]
        for error in made:
            with self.assertRaises(errors.HallError):
                raise error


if __name__ == "__main__":
    unittest.main()
