import unittest

from sackloads import errors

NAMES = ["NoStore", "NoNumber", "NoLoad", "TooMany", "NotSingle", "NotEndless", "NoKind", "NoLine", "NoText"]


class Classes(unittest.TestCase):
    def test_sack_error_stands_under_value_error(self):
        self.assertEqual(errors.SackError.__bases__, (ValueError,))

    def test_each_stands_straight_under_sack_error(self):
        for name in NAMES:
            with self.subTest(name):
                self.assertEqual(getattr(errors, name).__bases__, (errors.SackError,))

    def test_none_stands_under_another(self):
        for name in NAMES:
            for other in NAMES:
                if name != other:
                    with self.subTest(name=name, other=other):
                        self.assertFalse(issubclass(getattr(errors, name), getattr(errors, other)))

    def test_made_of_a_text(self):
        for name in NAMES[:-1] + ["SackError"]:
            with self.subTest(name):
                with self.assertRaises(getattr(errors, name)) as caught:
                    raise getattr(errors, name)("some words")
                self.assertEqual(str(caught.exception), "some words")

    def test_no_text_keeps_at(self):
        for at in [0, 1, 12]:
            with self.subTest(at):
                with self.assertRaises(errors.NoText) as caught:
                    raise errors.NoText(at)
                self.assertEqual(caught.exception.at, at)
                self.assertIsInstance(str(caught.exception), str)


if __name__ == "__main__":
    unittest.main()
