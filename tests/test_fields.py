import copy
import itertools
import unittest

from reckoning import stream_of_signs, taken
from stormpost.errors import BadSign
from stormpost.fields import exponent, inverse, power, solved

UNITS = range(1, 97)
NO_SIGNS = (-1, 97, -97, 98, 194, 10 ** 59, -(10 ** 59))
SIXTY_FIGURES = 987654321012345678909876543210123456789098765432101234567890


def sides_of(rows, unknowns):
    return [sum(sign * unknown for sign, unknown in zip(row, unknowns)) % 97 for row in rows]


def rows_with_one_answer(n, signs):
    """A product of two triangles without a nought on their diagonals: no row is a sum of the others."""
    lower = [taken(signs, i) + [1] + [0] * (n - i - 1) for i in range(n)]
    upper = [[0] * i + [1 + taken(signs, 1)[0] % 96] + taken(signs, n - i - 1) for i in range(n)]
    return [
        [sum(lower[i][k] * upper[k][j] for k in range(n)) % 97 for j in range(n)]
        for i in range(n)
    ]


def sum_of_rows(rows, times):
    return [sum(t * row[j] for t, row in zip(times, rows)) % 97 for j in range(len(rows[0]))]


class InverseTest(unittest.TestCase):
    def test_product_with_the_inverse_is_one(self):
        for a in UNITS:
            self.assertIn(inverse(a), UNITS)
            self.assertEqual(a * inverse(a) % 97, 1, a)

    def test_refuses_nought_and_what_is_no_sign(self):
        for a in (0,) + NO_SIGNS:
            with self.subTest(a=a), self.assertRaises(BadSign):
                inverse(a)


class ExponentTest(unittest.TestCase):
    def test_five_to_it_is_the_sign(self):
        for a in UNITS:
            self.assertIn(exponent(a), range(96))
            self.assertEqual(pow(5, exponent(a), 97), a)

    def test_each_exponent_is_told_once(self):
        self.assertEqual(sorted(exponent(a) for a in UNITS), list(range(96)))

    def test_one_and_five(self):
        self.assertEqual((exponent(1), exponent(5)), (0, 1))

    def test_refuses_nought_and_what_is_no_sign(self):
        for a in (0,) + NO_SIGNS:
            with self.subTest(a=a), self.assertRaises(BadSign):
                exponent(a)


class PowerTest(unittest.TestCase):
    def test_all_signs(self):
        for a in range(97):
            for k in (0, 1, 2, 3, 95, 96, 97, SIXTY_FIGURES):
                self.assertEqual(power(a, k), pow(a, k, 97), (a, k))

    def test_exponent_nought_tells_one(self):
        for a in range(97):
            self.assertEqual(power(a, 0), 1)

    def test_exponent_ninety_six_tells_one_but_of_nought(self):
        self.assertEqual([power(a, 96) for a in range(97)], [0] + [1] * 96)

    def test_nought_with_sixty_figures(self):
        self.assertEqual(power(0, SIXTY_FIGURES), 0)

    def test_refuses_what_is_no_sign_whatever_the_exponent(self):
        for a in NO_SIGNS:
            for k in (0, 1, 96, SIXTY_FIGURES, -1):
                with self.subTest(a=a, k=k), self.assertRaises(BadSign):
                    power(a, k)


class SolvedOneAnswerTest(unittest.TestCase):
    def test_no_equations(self):
        self.assertEqual(solved([], []), [])

    def test_one_equation(self):
        for a in UNITS:
            for side in range(97):
                told = solved([[a]], [side])
                self.assertEqual(len(told), 1)
                self.assertIn(told[0], range(97))
                self.assertEqual(told[0] * a % 97, side)

    def test_up_to_six_equations(self):
        signs = stream_of_signs(7)
        for n in range(7):
            for again in range(40):
                rows = rows_with_one_answer(n, signs)
                unknowns = taken(signs, n)
                self.assertEqual(solved(rows, sides_of(rows, unknowns)), unknowns, rows)

    def test_first_sign_of_a_row_is_nought(self):
        self.assertEqual(solved([[0, 1], [1, 0]], [8, 9]), [9, 8])
        self.assertEqual(solved([[0, 2, 1], [0, 1, 1], [3, 0, 0]], [7, 5, 6]), [2, 2, 3])

    def test_noughts_come_up_on_the_way(self):
        rows = [[1, 2, 3], [1, 2, 4], [5, 6, 7]]
        self.assertEqual(solved(rows, sides_of(rows, [10, 20, 96])), [10, 20, 96])

    def test_ones_in_any_places(self):
        for n in range(1, 6):
            unknowns = list(range(90, 90 + n))
            for places in itertools.permutations(range(n)):
                rows = [[int(j == place) for j in range(n)] for place in places]
                self.assertEqual(solved(rows, sides_of(rows, unknowns)), unknowns)


class SolvedNoAnswerTest(unittest.TestCase):
    def test_one_row_of_nought(self):
        self.assertIsNone(solved([[0]], [0]))
        self.assertIsNone(solved([[0]], [1]))

    def test_a_row_is_a_sum_of_the_others(self):
        signs = stream_of_signs(11)
        for n in range(2, 7):
            for place in range(n):
                rows = rows_with_one_answer(n, signs)
                others = rows[:place] + rows[place + 1:]
                rows[place] = sum_of_rows(others, taken(signs, n - 1))
                several = sides_of(rows, taken(signs, n))
                none = list(several)
                none[place] = (none[place] + 1) % 97
                self.assertIsNone(solved(rows, several), rows)
                self.assertIsNone(solved(rows, none), rows)

    def test_rows_alike_and_rows_of_nought(self):
        for n in range(2, 7):
            ones = [[int(i == j) for j in range(n)] for i in range(n)]
            for right in ([0] * n, [1] * n, list(range(n))):
                self.assertIsNone(solved(ones[:-1] + [ones[0]], right))
                self.assertIsNone(solved(ones[:-1] + [[0] * n], right))
                self.assertIsNone(solved([[0] * n for i in range(n)], right))

    def test_two_equations_as_all_answers_tried_tell(self):
        signs = stream_of_signs(13)
        pairs = list(itertools.product(range(97), repeat=2))
        for again in range(12):
            first = taken(signs, 2)
            second = taken(signs, 2) if again % 2 else [sign * again % 97 for sign in first]
            rows, right = [first, second], taken(signs, 2)
            answers = [list(pair) for pair in pairs if sides_of(rows, pair) == right]
            self.assertEqual(solved(rows, right), answers[0] if len(answers) == 1 else None)


class OwnershipTest(unittest.TestCase):
    def test_what_is_handed_in_stays(self):
        for rows, right in (
            ([[0, 2, 1], [0, 1, 1], [3, 0, 0]], [7, 5, 6]),
            ([[1, 2], [2, 4]], [3, 6]),
            ([], []),
        ):
            rows_then, right_then = copy.deepcopy(rows), list(right)
            solved(rows, right)
            self.assertEqual((rows, right), (rows_then, right_then))

    def test_what_is_told_is_the_askers_own(self):
        rows, right = [[1, 0], [0, 1]], [8, 9]
        told = solved(rows, right)
        told[0] = 50
        told.append(51)
        self.assertEqual((rows, right), ([[1, 0], [0, 1]], [8, 9]))
        self.assertEqual(solved(rows, right), [8, 9])
        none = solved([], [])
        none.append(1)
        self.assertEqual(solved([], []), [])

    def test_what_is_told_stays_when_more_is_asked(self):
        rows, right = [[1, 0], [0, 1]], [8, 9]
        told = solved(rows, right)
        rows[0][0] = 2
        right[1] = 10
        solved(rows, right)
        self.assertEqual(told, [8, 9])


if __name__ == "__main__":
    unittest.main()
