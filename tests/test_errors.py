"""Point 11: the classes of the refusals."""

import unittest

from mustpass.errors import NoNet, NoRoom, PassError, Unreached


class TestErrors(unittest.TestCase):

    def test_any_refusal_is_a_value_error(self):
        self.assertTrue(issubclass(PassError, ValueError))

    def test_each_refusal_is_a_pass_error(self):
        for error in (NoNet, NoRoom, Unreached):
            self.assertTrue(issubclass(error, PassError), error)
            self.assertIsNot(error, PassError)

    def test_no_refusal_is_another_one(self):
        for error in (NoNet, NoRoom, Unreached):
            for other in (NoNet, NoRoom, Unreached):
                self.assertEqual(issubclass(error, other), error is other)

    def test_refusals_can_be_taken_as_pass_error_and_value_error(self):
        for error in (NoNet, NoRoom, Unreached):
            for wider in (PassError, ValueError):
                with self.assertRaises(wider):
                    raise error("some words")


if __name__ == "__main__":
    unittest.main()
