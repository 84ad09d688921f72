"""The errors of the interface and their fields."""

import unittest

from helpedcalls import errors

PLAIN = ["BadObject", "BadCall", "BadState", "BadPair", "BadPlans", "BadOrders"]
FIELDS = [("BadHistory", "index"), ("BadWeaving", "index"), ("BadProgram", "line"), ("TooMany", "most")]


class Errors(unittest.TestCase):
    def test_the_base_is_a_value_error(self):
        self.assertEqual(errors.SharedError.__bases__, (ValueError,))

    def test_all_stand_directly_beneath_the_base(self):
        for name in PLAIN + [name for name, _ in FIELDS]:
            made = getattr(errors, name)
            self.assertEqual(made.__bases__, (errors.SharedError,), name)
            self.assertEqual(made.__module__, "helpedcalls.errors")
            self.assertEqual(made.__name__, name)

    def test_errors_without_a_field_take_no_argument(self):
        for name in PLAIN:
            made = getattr(errors, name)
            with self.assertRaises(errors.SharedError):
                raise made()

    def test_errors_with_a_field_take_it_as_their_one_argument(self):
        for name, field in FIELDS:
            made = getattr(errors, name)
            for told in (0, 24, 3000, None):
                self.assertEqual(vars(made(told)), {field: told})
            for wrong in ((), (1, 2)):
                with self.assertRaises(TypeError):
                    made(*wrong)

    def test_a_caught_error_has_its_field(self):
        with self.assertRaises(errors.SharedError) as caught:
            raise errors.TooMany(3000)
        self.assertEqual(caught.exception.most, 3000)


if __name__ == "__main__":
    unittest.main()
