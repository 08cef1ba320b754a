import unittest

from meldhouse import errors

REFUSALS = [errors.BadHouse, errors.BadHand, errors.BadLaying, errors.BadNote]


class ErrorClasses(unittest.TestCase):
    def test_meld_error_is_a_value_error(self):
        self.assertEqual(errors.MeldError.__bases__, (ValueError,))

    def test_each_refusal_stands_under_meld_error_alone(self):
        for refusal in REFUSALS:
            with self.subTest(refusal=refusal.__name__):
                self.assertEqual(refusal.__bases__, (errors.MeldError,))
                self.assertTrue(issubclass(refusal, ValueError))

    def test_no_refusal_is_another(self):
        for one in REFUSALS:
            for other in REFUSALS:
                with self.subTest(one=one.__name__, other=other.__name__):
                    self.assertEqual(issubclass(one, other), one is other)

    def test_each_is_raised_and_taken_by_its_name(self):
        for refusal in REFUSALS:
            with self.subTest(refusal=refusal.__name__):
                with self.assertRaises(refusal):
                    raise refusal("refused")


if __name__ == "__main__":
    unittest.main()
