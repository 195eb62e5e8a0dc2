"""leastheads.queues: lists of numbers, families, blocks, results, assignments."""

import itertools
import random
import unittest

from helpers import BIG, KINDS, NO_FAMILIES, NO_NUMBERS, SIZES, PromiseCase, Thing
from helpers import merged_by_heads, records_by_definition, some_families, some_numbers
from leastheads.errors import InvalidFamily, InvalidNumbers
from leastheads.queues import (
    assignment_of, blocks_of, is_family, is_numbers, merged, same_result,
)

NUMBERS = [[], [0], [-1], [3, 1], [-2, 5, 0], [BIG, -BIG, 0], list(range(150)), list(range(150, 0, -1))]
FAMILIES = [
    [[]], [[], []], [[0]], [[3, 1], []], [[], [3, 1]], [[-1], [-2]], [[BIG], [-BIG, 0]],
    [[] for _ in range(150)], [[number] for number in range(150)], [list(range(150))],
]


class KindsTest(PromiseCase):
    def test_lists_of_numbers(self):
        for value in NUMBERS:
            self.says(True, is_numbers, value)

    def test_no_lists_of_numbers(self):
        for value in NO_NUMBERS:
            self.says(False, is_numbers, value)

    def test_families(self):
        for value in FAMILIES:
            self.says(True, is_family, value)

    def test_no_families(self):
        for value in NO_FAMILIES:
            self.says(False, is_family, value)

    def test_one_empty_list_in_two_places_is_a_family(self):
        empty = []
        self.says(True, is_family, [empty, empty])

    def test_random_families_and_lists(self):
        for family in some_families(1):
            self.says(True, is_family, family)
            for queue in family[:3]:
                self.says(True, is_numbers, queue)

    def test_one_number_twice_spoils_a_family(self):
        rng = random.Random(2)
        for family in some_families(3):
            numbers = [number for queue in family for number in queue]
            if numbers:
                queue = rng.choice(family)
                queue.insert(rng.randint(0, len(queue)), rng.choice(numbers))
                self.says(False, is_family, family)
                self.refuses(InvalidFamily, merged, family)

    def test_a_bool_in_the_place_of_an_integer(self):
        for truth in (True, False):
            for at in range(3):
                numbers = [7, 8, 9]
                numbers[at] = truth
                self.says(False, is_numbers, numbers)
                self.says(False, is_family, [numbers, []])


class BlocksTest(PromiseCase):
    def check(self, numbers):
        blocks = self.outcome(blocks_of, numbers)
        self.assertEqual([number for block in blocks for number in block], numbers)
        self.assertEqual([block[0] for block in blocks], records_by_definition(numbers))

    def test_small_lists_in_every_order(self):
        for size in range(6):
            for numbers in itertools.permutations(range(-2, size - 2)):
                self.check(list(numbers))

    def test_lists_of_all_sizes_and_orders(self):
        rng = random.Random(4)
        for size in SIZES:
            for kind in KINDS:
                self.check(some_numbers(rng, size, kind))

    def test_edges(self):
        self.assertEqual(self.outcome(blocks_of, []), [])
        self.assertEqual(self.outcome(blocks_of, [-5]), [[-5]])
        self.assertEqual(self.outcome(blocks_of, [1, 2, 3]), [[1], [2], [3]])
        self.assertEqual(self.outcome(blocks_of, [3, 2, 1]), [[3, 2, 1]])
        self.assertEqual(self.outcome(blocks_of, [-3, -4, BIG, -BIG]), [[-3, -4], [BIG, -BIG]])

    def test_changing_the_argument_later(self):
        self.later_change(blocks_of, [3, 1, 4])

    def test_wrong_values(self):
        for value in NO_NUMBERS:
            self.refuses(InvalidNumbers, blocks_of, value)


class MergedTest(PromiseCase):
    def test_families_of_all_sizes_and_orders(self):
        for family in some_families(5):
            self.assertEqual(self.outcome(merged, family), merged_by_heads(family))

    def test_small_families_of_every_kind(self):
        for numbers in itertools.permutations(range(4)):
            for queues in itertools.product(range(3), repeat=4):
                family = [[], [], []]
                for number, queue in zip(numbers, queues):
                    family[queue].append(number)
                self.assertEqual(merged(family), merged_by_heads(family))

    def test_the_blocks_of_the_result_are_those_of_the_family(self):
        for family in some_families(6):
            blocks = [block for queue in family for block in blocks_of(queue)]
            self.assertEqual(blocks_of(merged(family)), sorted(blocks))

    def test_edges(self):
        self.assertEqual(self.outcome(merged, [[]]), [])
        self.assertEqual(self.outcome(merged, [[], [], []]), [])
        self.assertEqual(self.outcome(merged, [[] for _ in range(150)]), [])
        self.assertEqual(self.outcome(merged, [[3, 1, 2]]), [3, 1, 2])
        self.assertEqual(self.outcome(merged, [[], [3, 1, 2], []]), [3, 1, 2])
        singles = [[number] for number in range(149, -1, -1)]
        self.assertEqual(self.outcome(merged, singles), list(range(150)))
        self.assertEqual(self.outcome(merged, [[BIG, -BIG], [0]]), [0, BIG, -BIG])

    def test_somewhat_beyond_the_limits(self):
        family = [list(range(at, 400, 200)) for at in range(200)]
        self.assertEqual(merged(family), list(range(400)))
        self.assertEqual(merged([[10 ** 40, -10 ** 40], [5]]), [5, 10 ** 40, -10 ** 40])

    def test_changing_the_argument_later(self):
        self.later_change(merged, [[3, 1, 4]])
        self.later_change(merged, [[3, 1], [4]])

    def test_wrong_values(self):
        for value in NO_FAMILIES:
            self.refuses(InvalidFamily, merged, value)


class AssignmentTest(PromiseCase):
    def test_the_family_follows_from_its_result_and_assignment(self):
        for family in some_families(7):
            assignment = self.outcome(assignment_of, family)
            blocks = blocks_of(merged(family))
            self.assertEqual(len(assignment), len(blocks))
            rebuilt = [[] for _ in family]
            for block, index in zip(blocks, assignment):
                rebuilt[index].extend(block)
            self.assertEqual(rebuilt, family)

    def test_every_assignment_of_blocks_gives_a_family_with_the_result(self):
        result = [3, 1, 4, 5, 2, 6, 0]
        for assignment in itertools.product(range(3), repeat=4):
            family = [[], [], []]
            for block, index in zip(blocks_of(result), assignment):
                family[index].extend(block)
            self.assertEqual(merged(family), result)
            self.assertEqual(self.outcome(assignment_of, family), list(assignment))

    def test_edges(self):
        self.assertEqual(self.outcome(assignment_of, [[]]), [])
        self.assertEqual(self.outcome(assignment_of, [[] for _ in range(150)]), [])
        self.assertEqual(self.outcome(assignment_of, [[], [], [5, 1, 7]]), [2, 2])
        singles = [[number] for number in range(149, -1, -1)]
        self.assertEqual(self.outcome(assignment_of, singles), list(range(149, -1, -1)))

    def test_changing_the_argument_later(self):
        self.later_change(assignment_of, [[3, 1], [4]])

    def test_wrong_values(self):
        for value in NO_FAMILIES:
            self.refuses(InvalidFamily, assignment_of, value)


class SameResultTest(PromiseCase):
    def test_families_against_each_other(self):
        rng = random.Random(8)
        for family in some_families(9):
            many = rng.randint(1, 12)
            other = [[] for _ in range(many)]
            for block in blocks_of(merged_by_heads(family)):
                rng.choice(other).extend(block)
            self.says(True, same_result, family, other)
            self.says(True, same_result, family, family)
            other[0].append(BIG + 1)
            self.says(False, same_result, family, other)
            self.says(False, same_result, other, family)

    def test_small_families_of_every_kind(self):
        families = []
        for numbers in itertools.permutations(range(3)):
            for queues in itertools.product(range(2), repeat=3):
                family = [[], []]
                for number, queue in zip(numbers, queues):
                    family[queue].append(number)
                families.append(family)
        for one, other in itertools.product(families, repeat=2):
            expected = merged_by_heads(one) == merged_by_heads(other)
            self.assertIs(same_result(one, other), expected)

    def test_edges(self):
        self.says(True, same_result, [[]], [[] for _ in range(150)])
        self.says(False, same_result, [[]], [[0]])
        self.says(True, same_result, [[1, 2]], [[2], [1]])
        self.says(False, same_result, [[2, 1]], [[2], [1]])
        self.says(False, same_result, [[3, 1]], [[3, 1], [9]])

    def test_wrong_values_in_either_place_and_in_both(self):
        good = [[3, 1], [4]]
        for value in NO_FAMILIES:
            self.refuses(InvalidFamily, same_result, value, good)
            self.refuses(InvalidFamily, same_result, good, value)
            self.refuses(InvalidFamily, same_result, value, value)
            self.refuses(InvalidFamily, same_result, value, Thing())


if __name__ == "__main__":
    unittest.main()
