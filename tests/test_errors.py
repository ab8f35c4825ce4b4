import unittest

from stormpost import errors

PLAIN = [
    "BadSign", "BadCell", "BadMeasure", "BadFate", "BadModel", "NoLink", "BadPiece",
    "BadLetter", "BadNews", "BadHouse", "BadName", "NoStream", "NoAsk", "BadNet",
]
ALL = PLAIN + ["BadText"]


class RefusalsTest(unittest.TestCase):
    def test_post_error_stands_under_value_error(self):
        self.assertEqual(errors.PostError.__bases__, (ValueError,))

    def test_there_are_fifteen_and_no_others(self):
        found = [
            name for name, value in vars(errors).items()
            if isinstance(value, type) and name != "PostError"
        ]
        self.assertEqual(sorted(found), sorted(ALL))
        self.assertEqual(len(ALL), 15)

    def test_each_stands_straight_under_post_error(self):
        for name in ALL:
            with self.subTest(name=name):
                self.assertEqual(getattr(errors, name).__bases__, (errors.PostError,))

    def test_none_stands_under_another_one(self):
        for one in ALL:
            for other in ALL:
                under = issubclass(getattr(errors, one), getattr(errors, other))
                self.assertEqual(under, one == other, (one, other))

    def test_each_is_made_with_a_text(self):
        for name in PLAIN:
            with self.subTest(name=name):
                with self.assertRaises(errors.PostError) as caught:
                    raise getattr(errors, name)("some words")
                self.assertEqual(str(caught.exception), "some words")

    def test_bad_text_keeps_its_row(self):
        for row in (1, 2, 10 ** 59):
            with self.assertRaises(errors.PostError) as caught:
                raise errors.BadText("some words", row)
            self.assertEqual(caught.exception.row, row)
            self.assertEqual(str(caught.exception), "some words")


if __name__ == "__main__":
    unittest.main()
