import copy
import itertools
import unittest

from plays import BAD_MODELS, MODELS, Play, gone, reached
from reckoning import FAR, stream_of_signs
from stormpost.errors import BadModel
from stormpost.fences import fence_stands, shown, walk_of
from stormpost.stands import first_stand

# What a search by plays tells of each model: the stands reached, and the fewest steps to a wrong one.
SEARCHED = {model: reached(model) for model in MODELS}
SAFE = [model for model in MODELS if SEARCHED[model][1] is None]
WRONG = [model for model in MODELS if SEARCHED[model][1] is not None]


def walked(model, steps):
    """The stands ahead of each step by plays, and whether each step may be and is wrong."""
    play = Play(model)
    stands, marks = [], []
    for step in steps:
        stands.append(play.stand())
        marks.append((step in play.steps(), play.is_wrong(step)))
        play.go(step)
    return stands, marks


class ShownTest(unittest.TestCase):
    def test_there_are_safe_and_wrong_models(self):
        self.assertEqual({model[0] for model in WRONG}, {1, 2})
        self.assertEqual({model[2] for model in SAFE}, {1, 2, 3})
        self.assertEqual({model[1] for model in WRONG if model[0] == 2}, {0, 1})

    def test_a_safe_model_has_a_fence(self):
        for model in SAFE:
            word, fence = shown(model)
            self.assertEqual(word, "safe", model)
            self.assertIsInstance(fence, list)
            inside = set(fence)
            self.assertEqual(len(inside), len(fence))
            self.assertIn(Play(model).stand(), inside)
            for stand in fence:
                play = Play(model, stand)
                for step in play.steps():
                    self.assertFalse(play.is_wrong(step), (model, stand, step))
                    self.assertIn(gone(model, stand, step), inside, (model, stand, step))
            self.assertIs(fence_stands(model, fence), True)

    def test_a_wrong_model_has_a_row_with_the_fewest_steps(self):
        for model in WRONG:
            word, steps = shown(model)
            self.assertEqual(word, "wrong", model)
            self.assertIsInstance(steps, list)
            stands, marks = walked(model, steps)
            self.assertEqual(marks, [(True, False)] * (len(steps) - 1) + [(True, True)], model)
            self.assertEqual(len(steps), SEARCHED[model][1], model)
            self.assertEqual(walk_of(model, steps), stands)

    def test_answers_are_pairs(self):
        for model in MODELS:
            answer = shown(model)
            self.assertIsInstance(answer, tuple)
            self.assertEqual(len(answer), 2)
            for part in answer[1]:
                self.assertIsInstance(part, tuple)

    def test_models_beyond_their_bounds(self):
        for model in BAD_MODELS:
            with self.subTest(model=model), self.assertRaises(BadModel):
                shown(model)

    def test_told_lists_are_the_askers_own(self):
        for model in ((2, 0, 1), (1, 0, 1), (2, 1, 3)):
            told = shown(model)
            before = copy.deepcopy(told)
            told[1].append(None)
            told[1][0] = None
            self.assertEqual(shown(model), before)
            self.assertEqual(shown(model), before)


class FenceStandsTest(unittest.TestCase):
    def test_the_stands_that_are_reached(self):
        for model in SAFE:
            fence = SEARCHED[model][0]
            self.assertIs(fence_stands(model, fence), True)
            self.assertIs(fence_stands(model, list(reversed(fence))), True)

    def test_a_stand_twice(self):
        for model in SAFE:
            fence = SEARCHED[model][0]
            for stand in fence:
                self.assertIs(fence_stands(model, fence + [stand]), False)
                self.assertIs(fence_stands(model, [stand] + fence), False)

    def test_a_stand_missing(self):
        # The first one among them; to each other one a step leads from within.
        for model in SAFE:
            fence = SEARCHED[model][0]
            for place in range(len(fence)):
                self.assertIs(fence_stands(model, fence[:place] + fence[place + 1:]), False)

    def test_just_the_first_stand_missing(self):
        # Nothing leads back to the first stand, so all else is as it should be.
        for model in SAFE:
            first = Play(model).stand()
            rest = [stand for stand in SEARCHED[model][0] if stand != first]
            self.assertTrue(all(gone(model, s, step) in rest for s in rest for step in Play(model, s).steps()))
            self.assertIs(fence_stands(model, rest), False)
            self.assertIs(fence_stands(model, rest + [first]), True)

    def test_no_stands_and_the_first_alone(self):
        for model in MODELS:
            self.assertIs(fence_stands(model, []), False)
            self.assertIs(fence_stands(model, [first_stand(model)]), False)

    def test_no_fence_of_a_wrong_model(self):
        # All that steps lead to is there: just a wrong step may be.
        for model in WRONG:
            self.assertIs(fence_stands(model, SEARCHED[model][0]), False)

    def test_a_wrong_step_from_a_stand_that_is_not_reached(self):
        for model in SAFE:
            many, pause, late = model
            nothing = (None,) * (late - 1)
            for stand in (
                (0, 0, (many,) + nothing, (0,) + nothing), (0, 1, (-many,) + nothing, (0,) + nothing),
                (-1, 0, (None,) + nothing, (many,) + nothing), (3, 0, (1,) + nothing, (4 - many * 7,) + nothing),
                (0, 0, (many * FAR,) + nothing, (None,) + nothing),
            ):
                stands, fewest = reached(model, [stand])
                self.assertEqual(fewest, 1)
                self.assertIs(fence_stands(model, stands), False)

    def test_wider_fences(self):
        found = 0
        for model in SAFE:
            nothing = (None,) * model[2]
            for stand in ((0, 8, nothing, nothing), (-1, 3, nothing, nothing), (0, 20, nothing, (0,) * model[2])):
                stands, fewest = reached(model, [stand])
                self.assertIn(stand, stands)
                self.assertIs(fence_stands(model, stands), fewest is None, (model, stand))
                found += fewest is None
                without = [other for other in stands if other not in (stand, first_stand(model))]
                self.assertIs(fence_stands(model, without), False)
        self.assertGreater(found, 300)

    def test_a_step_that_leads_outside_a_wider_fence(self):
        model = (4, 2, 2)
        fence = SEARCHED[model][0]
        nothing = (None, None)
        self.assertIs(fence_stands(model, fence + [(0, 8, nothing, nothing)]), False)
        self.assertIs(fence_stands(model, fence + [(FAR, 0, nothing, nothing)]), False)
        self.assertIs(fence_stands(model, fence + [(0, -FAR, nothing, nothing)]), False)

    def test_a_fence_of_another_model(self):
        self.assertIs(fence_stands((9, 0, 1), SEARCHED[(3, 0, 1)][0]), True)
        self.assertIs(fence_stands((3, 1, 1), SEARCHED[(3, 0, 1)][0]), False)
        self.assertIs(fence_stands((1, 0, 1), SEARCHED[(3, 0, 1)][0]), False)

    def test_models_beyond_their_bounds(self):
        for model, stands in itertools.product(BAD_MODELS, ([], [(0, 0, (None,), (None,))], SEARCHED[(3, 0, 1)][0])):
            with self.subTest(model=model), self.assertRaises(BadModel):
                fence_stands(model, stands)

    def test_the_list_stays_as_it_was(self):
        for stands in (SEARCHED[(3, 1, 2)][0], SEARCHED[(3, 1, 2)][0][1:], []):
            before = copy.deepcopy(stands)
            answer = fence_stands((3, 1, 2), stands)
            self.assertEqual(stands, before)
            self.assertIs(fence_stands((3, 1, 2), stands), answer)


class WalkTest(unittest.TestCase):
    def test_of_no_steps(self):
        for model in MODELS:
            self.assertEqual(walk_of(model, []), [])

    def test_rows_of_steps_that_may_be(self):
        for place, model in enumerate(SAFE):
            signs = stream_of_signs(900 + place)
            play = Play(model)
            steps, stands = [], []
            for tick in range(30):
                options = play.steps()
                steps.append(options[next(signs) % len(options)])
                stands.append(play.stand())
                play.go(steps[-1])
                self.assertEqual(walk_of(model, steps), stands)

    def test_the_last_one_may_be_wrong_and_no_other(self):
        for model in WRONG:
            steps = shown(model)[1]
            self.assertEqual(walk_of(model, steps), walked(model, steps)[0])
            self.assertEqual(walk_of(model, steps[:-1]), walked(model, steps)[0][:-1])
            for step in itertools.product(range(model[2] + 1), repeat=2):
                self.assertIsNone(walk_of(model, steps + [step]))

    def test_each_wrong_step_may_be_the_last_one(self):
        # (0, 1) hears a count that stands for another one, (1, 1) besides.
        for last in ((0, 1), (1, 1)):
            self.assertEqual(
                walk_of((1, 0, 1), [(0, 0), last]), [(0, 0, (None,), (None,)), (0, 0, (0,), (0,))]
            )
            self.assertIsNone(walk_of((1, 0, 1), [(0, 0), last, (0, 0)]))

    def test_steps_that_may_not_be(self):
        for model in MODELS:
            late = model[2]
            for step in (
                (1, 0), (0, 1), (1, 1), (late, 0), (0, late), (late + 1, 0), (0, late + 1), (-1, 0), (0, -1),
                (-late, -late), (FAR, 0), (0, FAR), (-FAR, FAR),
            ):
                self.assertIsNone(walk_of(model, [step]), (model, step))
                self.assertIsNone(walk_of(model, [step, (0, 0)]))
            for step in ((late + 1, 0), (0, late + 1), (-1, 0), (0, -1), (FAR, 0), (0, FAR), (-1, 1), (1, -1)):
                self.assertIsNone(walk_of(model, [(0, 0), step]), (model, step))
                self.assertIsNone(walk_of(model, [(0, 0), step, (0, 0)]))

    def test_any_pairs_as_a_play_tells_them(self):
        answered = 0
        for place, model in enumerate(MODELS):
            signs = stream_of_signs(1300 + place)
            for i in range(12):
                steps = [(0, 0)] + [(next(signs) % 3, next(signs) % 3) for k in range(next(signs) % 4)]
                play = Play(model)
                stands = []
                for step in steps:
                    if stands is None or step not in play.steps():
                        stands = None
                        break
                    stands.append(play.stand())
                    if play.is_wrong(step):
                        stands = stands if len(stands) == len(steps) else None
                        break
                    play.go(step)
                self.assertEqual(walk_of(model, steps), stands, (model, steps))
                answered += stands is not None
        self.assertGreater(answered, 300)

    def test_while_it_rests_nothing_is_heard(self):
        model = (2, 3, 1)
        steps = [(0, 0), (1, 0), (0, 1)]
        self.assertEqual(len(walk_of(model, steps)), 3)
        self.assertIsNone(walk_of(model, steps + [(0, 1)]))
        self.assertEqual(walk_of(model, steps + [(0, 0)])[-1], (0, 2, (None,), (0,)))

    def test_models_beyond_their_bounds(self):
        for model, steps in itertools.product(BAD_MODELS, ([], [(0, 0)], [(5, 5)])):
            with self.subTest(model=model), self.assertRaises(BadModel):
                walk_of(model, steps)

    def test_lists_are_nobodys_but_their_askers(self):
        steps = [(0, 0), (1, 0), (0, 1)]
        told = walk_of((2, 3, 1), steps)
        before = copy.deepcopy(told)
        told[0] = None
        told.append(None)
        self.assertEqual(steps, [(0, 0), (1, 0), (0, 1)])
        self.assertEqual(walk_of((2, 3, 1), steps), before)


if __name__ == "__main__":
    unittest.main()
