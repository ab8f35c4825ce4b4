import copy
import itertools
import unittest

from plays import BAD_MODELS, MODELS, Play, gone
from reckoning import FAR, stream_of_signs
from stormpost.errors import BadModel
from stormpost.stands import first_stand, is_wrong, next_stand, steps_from


def any_entry(signs, many):
    """None, a number close by, or a multiple of many, below nought and far ones among them."""
    sort = next(signs) % 8
    close = next(signs) % 13 - 6
    if sort == 0:
        return None
    if sort == 1:
        return close * many
    if sort == 2:
        return (FAR // many + close) * many * (1 if close % 2 else -1)
    return close


def any_stand(signs, model):
    many, pause, late = model
    ahead = any_entry(signs, many) or 0
    rest = (0, 0, 0, 1, pause, 5, -1, -FAR, FAR)[next(signs) % 9]
    sent = tuple(any_entry(signs, many) for i in range(late))
    told = [any_entry(signs, many) for i in range(late)]
    # Counts that are heard are among them often enough.
    told = tuple(
        entry if entry is None or next(signs) % 2 else (ahead + 1 + (entry % 3 - 1) * many) for entry in told
    )
    return (ahead, rest, sent, told)


class StandsTest(unittest.TestCase):
    def agrees(self, model, stand):
        """The program tells of a stand what the play tells, whatever its count is."""
        for count in (0, 1000):
            play = Play(model, stand, count)
            self.assertEqual(play.stand(), stand)
            self.assertEqual(steps_from(model, stand), play.steps(), (model, stand))
            for step in play.steps():
                wrong = is_wrong(model, stand, step)
                self.assertIs(wrong, play.is_wrong(step), (model, stand, step))
                if not wrong:
                    self.assertEqual(next_stand(model, stand, step), gone(model, stand, step), (model, stand, step))


class FirstStandTest(StandsTest):
    def test_nothing_was_given(self):
        self.assertEqual(first_stand((1, 0, 1)), (0, 0, (None,), (None,)))
        self.assertEqual(first_stand((5, 4, 2)), (0, 0, (None, None), (None, None)))
        self.assertEqual(first_stand((9, 8, 3)), (0, 0, (None, None, None), (None, None, None)))

    def test_of_each_model(self):
        for model in MODELS:
            stand = first_stand(model)
            self.assertEqual(stand, (0, 0, (None,) * model[2], (None,) * model[2]))
            self.assertEqual(steps_from(model, stand), [(0, 0)])
            self.assertIs(is_wrong(model, stand, (0, 0)), False)
            behind = (0, 0, (0,) + (None,) * (model[2] - 1), (0,) + (None,) * (model[2] - 1))
            self.assertEqual(next_stand(model, stand, (0, 0)), behind)
            self.agrees(model, stand)


class ReachedTest(StandsTest):
    def test_stands_reached_by_rows_of_steps(self):
        for place, model in enumerate(MODELS):
            signs = stream_of_signs(300 + place)
            play = Play(model)
            stand = first_stand(model)
            for tick in range(40):
                self.agrees(model, stand)
                steps = [step for step in steps_from(model, stand) if not is_wrong(model, stand, step)]
                step = steps[next(signs) % len(steps)]
                play.go(step)
                stand = next_stand(model, stand, step)
                self.assertEqual(stand, play.stand())

    def test_a_piece_is_taken_and_its_count_heard(self):
        model = (2, 0, 1)
        stand = (0, 0, (0,), (0,))
        self.assertEqual(steps_from(model, stand), [(0, 0), (1, 0)])
        stand = next_stand(model, stand, (1, 0))
        self.assertEqual(stand, (-1, 0, (-1,), (0,)))
        self.assertEqual(steps_from(model, stand), [(0, 0), (0, 1)])
        self.assertEqual(next_stand(model, stand, (0, 0)), stand)
        self.assertEqual(next_stand(model, stand, (0, 1)), (0, 0, (0,), (0,)))

    def test_a_rest_runs_down(self):
        for pause in range(9):
            model = (3, pause, 1)
            stand = next_stand(model, (-1, 0, (-1,), (0,)), (0, 1))
            for rest in range(pause - 1, -1, -1):
                self.assertEqual(stand, (0, rest, (None,), (0,)))
                # What would be heard elsewhere is not heard while it rests.
                heard = (0, rest, (None,), (1,))
                self.assertEqual(steps_from(model, heard), [(0, 0), (0, 1)] if rest == 0 else [(0, 0)])
                stand = next_stand(model, stand, (0, 0))
            self.assertEqual(stand, (0, 0, (0,), (0,)))

    def test_a_take_while_it_rests(self):
        model = (4, 5, 2)
        self.assertEqual(steps_from(model, (0, 3, (None, 0), (0, 0))), [(0, 0), (2, 0)])
        self.assertEqual(next_stand(model, (0, 3, (None, 0), (0, 0)), (2, 0)), (-1, 2, (None, None), (0, -1)))


class AnyStandTest(StandsTest):
    def test_stands_of_any_numbers(self):
        seen = {"take": 0, "hear": 0, "both": 0, "wrong": 0, "below": 0, "rests": 0}
        for place, model in enumerate(MODELS):
            signs = stream_of_signs(700 + place)
            for i in range(60):
                stand = any_stand(signs, model)
                self.agrees(model, stand)
                for step in steps_from(model, stand):
                    wrong = is_wrong(model, stand, step)
                    seen["wrong"] += wrong
                    seen["take"] += step[0] > 0 and not wrong
                    seen["hear"] += step[1] > 0 and not wrong
                    seen["both"] += step[0] > 0 and step[1] > 0 and not wrong
                    seen["below"] += any(entry is not None and entry < 0 for entry in stand[2] + stand[3])
                    seen["rests"] += stand[1] > 0
        # All that is asked of stands was drawn often.
        self.assertGreater(min(seen.values()), 100, seen)

    def test_a_take_and_a_hear_in_one_step(self):
        self.assertEqual(
            steps_from((5, 2, 2), (4, 0, (0, 5), (5, 10))),
            [(0, 0), (0, 1), (0, 2), (1, 0), (1, 1), (1, 2), (2, 0), (2, 1), (2, 2)],
        )
        self.assertEqual(next_stand((5, 2, 2), (4, 0, (0, 5), (5, 10)), (1, 1)), (4, 1, (None, -1), (0, 4)))
        self.assertEqual(next_stand((5, 0, 2), (4, 0, (0, 5), (5, 10)), (1, 1)), (4, 0, (4, -1), (0, 4)))
        self.assertEqual(next_stand((5, 1, 2), (4, 0, (0, 5), (5, 10)), (1, 1)), (4, 0, (None, -1), (0, 4)))

    def test_entries_are_taken_as_the_stand_has_them(self):
        # The count heard is held to ahead and 1 as they were ahead of the take.
        model = (9, 0, 1)
        stand = (-1, 0, (0,), (0,))
        self.assertEqual(steps_from(model, stand), [(0, 0), (0, 1), (1, 0), (1, 1)])
        self.assertIs(is_wrong(model, stand, (1, 1)), False)
        self.assertEqual(next_stand(model, stand, (1, 1)), (-1, 0, (-1,), (0,)))

    def test_multiples_that_are_not_nought(self):
        for many, times in itertools.product(range(1, 10), (-FAR, -7, -1, 1, 2, FAR)):
            model = (many, 3, 1)
            taken = (7, 0, (times * many,), (None,))
            self.assertEqual(steps_from(model, taken), [(0, 0), (1, 0)])
            self.assertIs(is_wrong(model, taken, (1, 0)), True)
            self.assertIs(is_wrong(model, taken, (0, 0)), False)
            for ahead in (0, -1, 5, FAR):
                heard = (ahead, 0, (None,), (ahead + 1 + times * many,))
                self.assertEqual(steps_from(model, heard), [(0, 0), (0, 1)])
                self.assertIs(is_wrong(model, heard, (0, 1)), True)
                self.assertIs(is_wrong(model, heard, (0, 0)), False)

    def test_one_wrong_half_makes_a_step_wrong(self):
        model = (3, 0, 2)
        stand = (2, 0, (0, 3), (3, 6))
        wrongs = [step for step in steps_from(model, stand) if is_wrong(model, stand, step)]
        self.assertEqual(wrongs, [(0, 2), (1, 2), (2, 0), (2, 1), (2, 2)])

    def test_close_by_multiples(self):
        for many in range(2, 10):
            for entry in range(-30, 31):
                stand = (4, 0, (entry,), (entry,))
                takes = [0, 1] if entry % many == 0 else [0]
                hears = [0, 1] if (entry - 5) % many == 0 else [0]
                self.assertEqual(steps_from((many, 1, 1), stand), list(itertools.product(takes, hears)))

    def test_a_rest_below_nought_hears_nothing_and_stays(self):
        for rest in (-1, -8, -FAR):
            stand = (0, rest, (0,), (1,))
            self.assertEqual(steps_from((2, 4, 1), stand), [(0, 0), (1, 0)])
            self.assertEqual(next_stand((2, 4, 1), stand, (0, 0)), (0, rest, (0,), (0,)))

    def test_a_rest_beyond_pause_runs_down(self):
        self.assertEqual(next_stand((2, 0, 1), (0, FAR, (0,), (1,)), (0, 0)), (0, FAR - 1, (None,), (0,)))

    def test_nothing_given_stays_nothing(self):
        stand = (6, 0, (None, 0, None), (None, None, 7))
        self.assertEqual(steps_from((1, 0, 3), stand), [(0, 0), (0, 3), (2, 0), (2, 3)])
        self.assertEqual(next_stand((9, 0, 3), stand, (2, 3)), (6, 0, (6, None, -1), (0, None, None)))

    def test_the_oldest_entries_fall_out(self):
        stand = (0, 0, (5, 6, 7), (8, 9, 10))
        self.assertEqual(next_stand((9, 0, 3), stand, (0, 0)), (0, 0, (0, 5, 6), (0, 8, 9)))


class RefusalsTest(unittest.TestCase):
    def test_models_beyond_their_bounds(self):
        for model in BAD_MODELS:
            late = model[2] if 1 <= model[2] <= 3 else 1
            stand = (0, 0, (0,) * late, (1,) * late)
            for asked in (
                lambda: first_stand(model),
                lambda: steps_from(model, stand),
                lambda: is_wrong(model, stand, (0, 0)),
                lambda: is_wrong(model, stand, (1, 1)),
                lambda: next_stand(model, stand, (0, 0)),
                lambda: next_stand(model, stand, (1, 1)),
            ):
                with self.subTest(model=model), self.assertRaises(BadModel):
                    asked()

    def test_the_bounds_themselves_are_let(self):
        for model in itertools.product((1, 9), (0, 8), (1, 3)):
            self.assertEqual(steps_from(model, first_stand(model)), [(0, 0)])


class OwnershipTest(unittest.TestCase):
    def test_told_lists_are_the_askers_own(self):
        model, stand = (3, 1, 2), (0, 0, (0, 3), (1, 4))
        told = steps_from(model, stand)
        before = copy.deepcopy(told)
        told.append((9, 9))
        told[0] = None
        self.assertEqual(steps_from(model, stand), before)
        self.assertEqual(steps_from(model, stand), before)

    def test_what_is_told_may_be_handed_in_again(self):
        model = (3, 1, 2)
        stand = next_stand(model, first_stand(model), steps_from(model, first_stand(model))[0])
        self.assertEqual(steps_from(model, stand), [(0, 0), (1, 0)])
        self.assertEqual(next_stand(model, stand, (1, 0)), next_stand(model, stand, (1, 0)))


if __name__ == "__main__":
    unittest.main()
