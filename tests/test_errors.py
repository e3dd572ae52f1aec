import unittest

from nearposts import errors
from nearposts.errors import PostError

WITHOUT_FIELDS = ("NoMany", "NoPosts", "NoReach", "NoRing", "NoLine", "NoWord")
FIELDS = {
    "NoFolk": ("number", 3),
    "NoPost": ("number", 0),
    "NoTable": ("row", 2),
    "NoWay": ("three", (0, 1, 2)),
    "NoThing": ("thing", -4),
    "NoText": ("at", 5),
    "NoName": ("name", "mill"),
}


class ErrorsTest(unittest.TestCase):
    def test_post_error_stands_straight_under_value_error(self):
        self.assertEqual(PostError.__bases__, (ValueError,))

    def test_each_class_stands_straight_under_post_error(self):
        for name in WITHOUT_FIELDS + tuple(FIELDS):
            with self.subTest(name):
                self.assertEqual(getattr(errors, name).__bases__, (PostError,))

    def test_there_are_no_other_refusals(self):
        told = sorted(each.__name__ for each in PostError.__subclasses__())
        self.assertEqual(told, sorted(WITHOUT_FIELDS + tuple(FIELDS)))

    def test_those_without_fields_have_none(self):
        for name in WITHOUT_FIELDS:
            with self.subTest(name):
                with self.assertRaises(PostError) as caught:
                    raise getattr(errors, name)()
                self.assertEqual(vars(caught.exception), {})

    def test_fields_are_there_and_no_others(self):
        for name, (field, value) in FIELDS.items():
            with self.subTest(name):
                with self.assertRaises(PostError) as caught:
                    raise getattr(errors, name)(value)
                self.assertEqual(vars(caught.exception), {field: value})
                self.assertIs(type(str(caught.exception)), str)


if __name__ == "__main__":
    unittest.main()
