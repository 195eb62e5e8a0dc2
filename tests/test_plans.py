"""leastheads.plans: plans, the inputs of mergers, the results of mergers."""

import itertools
import random
import unittest

from helpers import NEVER, PromiseCase, Thing, nested, some_families
from plan_helpers import (
    FLAT, NO_PLANS, PLANS, deep_plan, depth_of, result_by_heads, some_plan, sources_in, text_order,
)
from leastheads.errors import InvalidFamily, InvalidPlan
from leastheads.plans import inputs_of, is_plan, merger_results
from leastheads.queues import merged


class IsPlanTest(PromiseCase):
    def test_plans(self):
        for plan in PLANS:
            self.says(True, is_plan, plan)

    def test_no_plans(self):
        for value in NO_PLANS:
            self.says(False, is_plan, value)

    def test_random_plans(self):
        rng = random.Random(11)
        for _ in range(200):
            self.says(True, is_plan, some_plan(rng, rng.randint(1, 12)))

    def test_every_choice_of_small_integers(self):
        for size in range(1, 5):
            for numbers in itertools.product(range(-1, size + 1), repeat=size):
                expected = sorted(numbers) == list(range(size))
                self.assertIs(is_plan(list(numbers)), expected)
                self.assertIs(is_plan([[numbers[0]], *numbers[1:]]), expected)
                self.assertIs(is_plan([*numbers[:-1], [[numbers[-1]]]]), expected)

    def test_the_depth_ends_at_eight(self):
        for depth in range(1, 21):
            self.says(depth <= 8, is_plan, nested(depth, 0))
            self.says(depth <= 8, is_plan, deep_plan(depth))

    def test_one_list_in_many_places_takes_no_long_time(self):
        shared = [0]
        for _ in range(19):
            shared = [shared] * 150
        self.assertIs(is_plan(shared), False)
        shared = [0]
        for _ in range(7):
            shared = [shared] * 150
        self.assertIs(is_plan(shared), False)

    def test_somewhat_beyond_the_limits(self):
        self.says(True, is_plan, list(range(40)))


class InputsTest(PromiseCase):
    def check(self, plan):
        inputs = self.outcome(inputs_of, plan)
        mergers = text_order(plan)
        self.assertEqual(len(inputs), len(mergers))
        for lanes, merger in zip(inputs, mergers):
            self.assertIs(type(lanes), list)
            self.assertEqual(len(lanes), len(merger))
            for lane, part in zip(lanes, merger):
                self.assertIs(type(lane), tuple)
                if isinstance(part, list):
                    self.assertEqual(lane[0], "merger")
                    self.assertEqual(mergers[lane[1]], part)
                else:
                    self.assertEqual(lane, ("source", part))
        fed = [lane[1] for lanes in inputs for lane in lanes if lane[0] == "merger"]
        self.assertEqual(sorted(fed), list(range(1, len(mergers))))

    def test_the_plans(self):
        for plan in PLANS:
            self.check(plan)

    def test_random_plans(self):
        rng = random.Random(12)
        for _ in range(200):
            self.check(some_plan(rng, rng.randint(1, 12)))

    def test_mergers_are_numbered_as_their_lists_begin(self):
        self.assertEqual(self.outcome(inputs_of, [[[0], 1], [2, [3]], 4]), [
            [("merger", 1), ("merger", 3), ("source", 4)],
            [("merger", 2), ("source", 1)],
            [("source", 0)],
            [("source", 2), ("merger", 4)],
            [("source", 3)],
        ])

    def test_edges(self):
        self.assertEqual(self.outcome(inputs_of, [0]), [[("source", 0)]])
        self.assertEqual(self.outcome(inputs_of, [[0]]), [[("merger", 1)], [("source", 0)]])
        self.assertEqual(self.outcome(inputs_of, FLAT), [[("source", source) for source in FLAT]])
        deepest = [[("merger", number)] for number in range(1, 8)] + [[("source", 0)]]
        self.assertEqual(self.outcome(inputs_of, nested(8, 0)), deepest)

    def test_changing_the_argument_later(self):
        self.later_change(inputs_of, [0, [1, 2]])

    def test_wrong_values(self):
        for value in NO_PLANS:
            self.refuses(InvalidPlan, inputs_of, value)


class MergerResultsTest(PromiseCase):
    def check(self, family, plan):
        results = self.outcome(merger_results, family, plan)
        expected = [result_by_heads(part, family) for part in text_order(plan)]
        self.assertEqual(results, expected)
        self.assertEqual(results[0], merged(family))

    def test_families_with_flat_nested_and_deep_plans(self):
        rng = random.Random(13)
        for family in some_families(14):
            many = len(family)
            if many <= 12:
                self.check(family, list(range(many)))
                self.check(family, some_plan(rng, many))
                self.check(family, nested(7, some_plan(rng, many, 1)))

    def test_a_plan_with_a_source_at_each_of_eight_depths(self):
        for family in some_families(15):
            if len(family) == 12:
                self.check(family[:9], deep_plan(8))

    def test_edges(self):
        self.assertEqual(self.outcome(merger_results, [[]], [0]), [[]])
        self.assertEqual(self.outcome(merger_results, [[3, 1]], [0]), [[3, 1]])
        self.assertEqual(self.outcome(merger_results, [[3, 1]], nested(8, 0)), [[3, 1]] * 8)
        self.assertEqual(self.outcome(merger_results, [[], []], [[1], [0]]), [[], [], []])
        self.assertEqual(self.outcome(merger_results, [[5, 1], []], [[1], [0]]), [[5, 1], [], [5, 1]])

    def test_changing_an_argument_later(self):
        self.later_change(merger_results, [[3, 1], [4], []], [[0], [[1], 2]])

    def test_wrong_families(self):
        for value in NEVER + [[], [0], [[1], [1]], [[True]]]:
            self.refuses(InvalidFamily, merger_results, value, [0])

    def test_wrong_plans(self):
        for many in (1, 2, 3, 12):
            family = [[number] for number in range(many)]
            for value in NO_PLANS:
                self.refuses(InvalidPlan, merger_results, family, value)

    def test_plans_for_another_number_of_queues(self):
        for many in (1, 2, 3, 8, 12, 13):
            family = [[number] for number in range(many)]
            for plan in PLANS:
                if len(sources_in(plan)) == many:
                    self.check(family, plan)
                else:
                    self.refuses(InvalidPlan, merger_results, family, plan)

    def test_the_family_is_looked_at_first(self):
        for family in ([], None, [[1], [1]], [[True]], ([1],), Thing()):
            for plan in ([], None, [1], [0, 1], (0,), nested(9, 0), Thing()):
                self.refuses(InvalidFamily, merger_results, family, plan)


class ReferenceTest(unittest.TestCase):
    def test_the_random_plans_reach_all_depths(self):
        rng = random.Random(16)
        depths = {depth_of(some_plan(rng, 12)) for _ in range(400)}
        self.assertEqual(depths, set(range(1, 9)))


if __name__ == "__main__":
    unittest.main()
