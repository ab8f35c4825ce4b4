import unittest

from stormpost.errors import BadSign
from stormpost.signs import number_signs, signs_number, signs_text, text_signs

PER_CENT = chr(37)
FAR = 10 ** 59
SIGN_OF = {chr(code): code - 32 for code in range(32, 127) if code != 37}
SIGN_OF["\n"] = 95
WHOLE_ROW = "".join(SIGN_OF)


class TextsTest(unittest.TestCase):
    def test_each_letter_has_its_sign(self):
        self.assertEqual(len(WHOLE_ROW), 95)
        for letter, sign in SIGN_OF.items():
            self.assertEqual(text_signs(letter), [sign], letter)
            self.assertEqual(signs_text([sign]), letter, sign)

    def test_the_whole_row_and_back(self):
        signs = [sign for sign in range(96) if sign != 5]
        self.assertEqual(text_signs(WHOLE_ROW), signs)
        self.assertEqual(signs_text(signs), WHOLE_ROW)

    def test_the_ends_of_the_row(self):
        self.assertEqual(text_signs(" ~\n"), [0, 94, 95])
        self.assertEqual(signs_text([0, 94, 95]), " ~\n")

    def test_order_and_repetition_stay(self):
        self.assertEqual(text_signs("b a\nab"), [66, 0, 65, 95, 65, 66])
        self.assertEqual(signs_text([66, 0, 65, 95, 65, 66]), "b a\nab")

    def test_nothing(self):
        self.assertEqual(text_signs(""), [])
        self.assertEqual(signs_text([]), "")

    def test_other_letters_are_refused_anywhere(self):
        codes = list(range(0, 10)) + list(range(11, 32)) + [127, 128, 160, 255, 0x20AC, 0x1F4A9]
        for letter in [PER_CENT] + [chr(code) for code in codes]:
            for text in (letter, letter + "ab", "a" + letter + "b", "ab" + letter):
                with self.subTest(text=text), self.assertRaises(BadSign):
                    text_signs(text)

    def test_other_numbers_are_refused_anywhere(self):
        for number in (5, 96, -1, 97, -96, -5, 102, 192, FAR, -FAR):
            for signs in ([number], [number, 1, 2], [1, number, 2], [1, 2, number]):
                with self.subTest(signs=signs), self.assertRaises(BadSign):
                    signs_text(signs)


class NumbersTest(unittest.TestCase):
    def test_the_greatest_place_is_first(self):
        self.assertEqual(number_signs(1, 3), [0, 0, 1])
        self.assertEqual(number_signs(97, 3), [0, 1, 0])
        self.assertEqual(number_signs(97 * 97 * 3 + 97 * 4 + 5, 3), [3, 4, 5])
        self.assertEqual(signs_number([3, 4, 5]), 97 * 97 * 3 + 97 * 4 + 5)
        self.assertEqual(signs_number([0, 0, 1]), 1)

    def test_each_number_of_one_sign(self):
        for number in range(97):
            self.assertEqual(number_signs(number, 1), [number])
            self.assertEqual(signs_number([number]), number)

    def test_edges_for_one_to_ten_signs(self):
        for many in range(1, 11):
            greatest = 97 ** many - 1
            self.assertEqual(number_signs(0, many), [0] * many)
            self.assertEqual(signs_number([0] * many), 0)
            self.assertEqual(number_signs(greatest, many), [96] * many)
            self.assertEqual(signs_number([96] * many), greatest)

    def test_there_and_back(self):
        for many in range(1, 11):
            for number in (1, 96, 97, 9408, 9409, 900000, 97 ** 9, 97 ** many // 3, 97 ** many - 2):
                if number < 97 ** many:
                    signs = number_signs(number, many)
                    self.assertEqual(len(signs), many)
                    self.assertEqual(signs_number(signs), number)

    def test_numbers_beyond_are_refused(self):
        for many in range(1, 11):
            for number in (97 ** many, 97 ** many + 1, 97 ** (many + 1), FAR):
                with self.subTest(number=number, many=many), self.assertRaises(BadSign):
                    number_signs(number, many)

    def test_numbers_below_nought_are_refused(self):
        for many in range(1, 11):
            for number in (-1, -96, -97, -(97 ** many), -(97 ** many) + 1, -FAR):
                with self.subTest(number=number, many=many), self.assertRaises(BadSign):
                    number_signs(number, many)

    def test_what_is_no_sign_is_refused_anywhere(self):
        for number in (-1, 97, 98, -97, FAR, -FAR):
            for many in range(1, 11):
                for place in range(many):
                    signs = [1] * many
                    signs[place] = number
                    with self.subTest(signs=signs), self.assertRaises(BadSign):
                        signs_number(signs)


class OwnershipTest(unittest.TestCase):
    def test_what_is_handed_in_stays(self):
        signs = [66, 0, 95]
        signs_text(signs)
        signs_number(signs)
        self.assertEqual(signs, [66, 0, 95])
        for refused in ([1, 5, 96], [1, 97, -1]):
            before = list(refused)
            with self.assertRaises(BadSign):
                signs_text(refused)
            self.assertEqual(refused, before)
        refused = [1, 97, -1]
        with self.assertRaises(BadSign):
            signs_number(refused)
        self.assertEqual(refused, [1, 97, -1])

    def test_what_is_told_is_the_askers_own(self):
        for ask, answer in (
            (lambda: text_signs("ab"), [65, 66]),
            (lambda: text_signs(""), []),
            (lambda: number_signs(98, 2), [1, 1]),
            (lambda: number_signs(0, 1), [0]),
        ):
            told = ask()
            told.append(50)
            told[0] = 51
            self.assertEqual(ask(), answer)

    def test_what_is_told_may_be_handed_in_again(self):
        self.assertEqual(signs_text(text_signs(WHOLE_ROW)), WHOLE_ROW)
        self.assertEqual(signs_number(number_signs(900000, 10)), 900000)


if __name__ == "__main__":
    unittest.main()
