import unittest

from dustwithin import errors
from dustwithin.errors import DustError

WITH_FIELDS = (
    ("TooMany", "most", 2000),
    ("Full", "most", 12),
    ("Held", "name", "abc"),
    ("Ring", "name", "x"),
    ("NoText", "place", 3),
)
OF_TEXT = ("NoBase", "NoWay", "NoStretch", "NoName", "NoForm", "NoMark", "NoRow")


class TestErrors(unittest.TestCase):
    def test_dust_error_is_right_under_value_error(self):
        self.assertEqual(DustError.__bases__, (ValueError,))

    def test_each_class_is_right_under_dust_error(self):
        names = [row[0] for row in WITH_FIELDS] + list(OF_TEXT)
        for name in names:
            with self.subTest(name):
                made = getattr(errors, name)
                self.assertEqual(made.__bases__, (DustError,))
                self.assertEqual(made.__module__, "dustwithin.errors")

    def test_fields_hold_what_the_error_was_made_of(self):
        for name, field, worth in WITH_FIELDS:
            with self.subTest(name):
                error = getattr(errors, name)(worth)
                self.assertEqual(vars(error), {field: worth})

    def test_fields_are_each_object_s_own(self):
        one, other = errors.TooMany(60), errors.TooMany(500)
        self.assertEqual((one.most, other.most), (60, 500))

    def test_made_of_a_text(self):
        for name in OF_TEXT:
            with self.subTest(name):
                error = getattr(errors, name)("why it is refused")
                self.assertEqual(str(error), "why it is refused")

    def test_each_is_caught_by_dust_error_and_by_value_error(self):
        made = [getattr(errors, name)(worth) for name, _, worth in WITH_FIELDS]
        made += [getattr(errors, name)("a text") for name in OF_TEXT]
        for error in made:
            for kind in (DustError, ValueError):
                with self.subTest(error=error, kind=kind):
                    with self.assertRaises(kind) as caught:
                        raise error
                    self.assertIs(caught.exception, error)

    def test_none_is_caught_by_another(self):
        kinds = [getattr(errors, row[0]) for row in WITH_FIELDS]
        kinds += [getattr(errors, name) for name in OF_TEXT]
        for one in kinds:
            for other in kinds:
                self.assertEqual(issubclass(one, other), one is other)


if __name__ == "__main__":
    unittest.main()
