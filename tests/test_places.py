"""leastheads.places: places of numbers, numbers at places, first differences."""

import itertools
import random
import unittest

from helpers import BIG, NO_FAMILIES, NO_INTEGERS, PromiseCase, Thing
from helpers import blocks_by_search, merged_by_heads, some_families
from leastheads.errors import InvalidFamily, InvalidIndex, UnknownNumber
from leastheads.places import comes_before, first_difference, number_at, place_of

FAMILY = [[3, 1, 5, 2], [], [4, 6, 0]]
RESULT = [3, 1, 4, 5, 2, 6, 0]
# Not numbers of the family above, though True and False are equal to some of them.
UNKNOWN = NO_INTEGERS + [7, -1, -3, 10 ** 29, BIG, -BIG, [3], (3,), "3", [[3]], {3: 3}, {3}]
NO_PLACES = NO_INTEGERS + [-1, -7, 7, 8, 10 ** 29, BIG, -BIG, [0], (0,), "0", [[0]], {0: 0}]


def place_by_sum(family, number):
    """The place as the second sentence of point 11 says."""
    blocks = [block for queue in family for block in blocks_by_search(queue)]
    own = next(block for block in blocks if number in block)
    return sum(len(block) for block in blocks if block[0] < own[0]) + own.index(number)


def some_parts(rng, result, most):
    """A family with the result of at most that many queues; some of them may be empty."""
    family = [[] for _ in range(rng.randint(1, most))]
    for block in blocks_by_search(result):
        rng.choice(family).extend(block)
    return family


class PlacesTest(PromiseCase):
    def test_families_of_all_sizes_and_orders(self):
        for family in some_families(21):
            for place, number in enumerate(merged_by_heads(family)):
                self.assertEqual(place_of(family, number), place)
                self.assertEqual(number_at(family, place), number)

    def test_the_sum_of_the_sizes_of_blocks(self):
        rng = random.Random(22)
        for family in some_families(23):
            numbers = [number for queue in family for number in queue]
            for number in rng.sample(numbers, min(len(numbers), 6)):
                self.assertEqual(self.outcome(place_of, family, number), place_by_sum(family, number))

    def test_small_families_of_every_kind(self):
        for numbers in itertools.permutations([-1, 0, 1, 5]):
            for queues in itertools.product(range(3), repeat=4):
                family = [[], [], []]
                for number, queue in zip(numbers, queues):
                    family[queue].append(number)
                result = merged_by_heads(family)
                self.assertEqual([place_of(family, number) for number in result], [0, 1, 2, 3])
                self.assertEqual([number_at(family, place) for place in range(4)], result)

    def test_edges(self):
        self.assertEqual(self.outcome(place_of, [[5]], 5), 0)
        self.assertEqual(self.outcome(number_at, [[], [5]], 0), 5)
        self.assertEqual(self.outcome(place_of, [[BIG, -BIG], [0]], -BIG), 2)
        self.assertEqual(self.outcome(number_at, [[BIG, -BIG], [0]], 0), 0)
        self.assertEqual(self.outcome(place_of, [[0], [1]], 0), 0)
        self.assertEqual(self.outcome(place_of, [[0], [1]], 1), 1)
        singles = [[number] for number in range(149, -1, -1)]
        for place in range(150):
            self.assertEqual(place_of(singles, place), place)
            self.assertEqual(number_at(singles, place), place)

    def test_somewhat_beyond_the_limits(self):
        family = [list(range(at, 400, 200)) for at in range(200)]
        self.assertEqual(place_of(family, 399), 399)
        self.assertEqual(number_at(family, 399), 399)
        self.assertEqual(place_of([[10 ** 40, -10 ** 40], [5]], -10 ** 40), 2)

    def test_wrong_arguments_of_place_of(self):
        self.refuses_in_order(
            place_of, [FAMILY, 4], [(0, NO_FAMILIES, InvalidFamily), (1, UNKNOWN, UnknownNumber)])

    def test_wrong_arguments_of_number_at(self):
        self.refuses_in_order(
            number_at, [FAMILY, 4], [(0, NO_FAMILIES, InvalidFamily), (1, NO_PLACES, InvalidIndex)])

    def test_no_number_has_a_place_in_an_empty_family(self):
        for family in ([[]], [[], []], [[] for _ in range(150)]):
            for value in (0, 1, -1, None, True, False, BIG, Thing()):
                self.refuses(UnknownNumber, place_of, family, value)
                self.refuses(InvalidIndex, number_at, family, value)

    def test_one_place_too_many(self):
        for family in some_families(24):
            many = sum(len(queue) for queue in family)
            self.refuses(InvalidIndex, number_at, family, many)
            self.refuses(InvalidIndex, number_at, family, -1)
            self.refuses(InvalidIndex, number_at, family, False)


class ComesBeforeTest(PromiseCase):
    def test_all_pairs_of_a_family(self):
        for one in RESULT:
            for other in RESULT:
                self.says(RESULT.index(one) < RESULT.index(other), comes_before, FAMILY, one, other)

    def test_pairs_of_each_kind(self):
        # One block, one queue, different queues, equal numbers.
        for one, other in ((3, 1), (5, 2), (6, 0), (3, 5), (1, 2), (4, 0), (1, 4), (4, 5), (2, 6)):
            self.says(True, comes_before, FAMILY, one, other)
            self.says(False, comes_before, FAMILY, other, one)
            self.says(False, comes_before, FAMILY, one, one)

    def test_families_of_all_sizes_and_orders(self):
        rng = random.Random(25)
        for family in some_families(26):
            result = merged_by_heads(family)
            for _ in range(4 if result else 0):
                one, other = rng.choice(result), rng.choice(result)
                self.says(result.index(one) < result.index(other), comes_before, family, one, other)

    def test_wrong_arguments(self):
        self.refuses_in_order(comes_before, [FAMILY, 4, 2], [
            (0, NO_FAMILIES, InvalidFamily), (1, UNKNOWN, UnknownNumber), (2, UNKNOWN, UnknownNumber)])


class FirstDifferenceTest(PromiseCase):
    def check(self, family, other):
        one, two = merged_by_heads(family), merged_by_heads(other)
        expected = None
        for index in range(max(len(one), len(two)) - 1, -1, -1):
            if one[index:index + 1] != two[index:index + 1]:
                expected = index
        self.assertEqual(self.outcome(first_difference, family, other), expected)
        self.assertEqual(self.outcome(first_difference, other, family), expected)
        return expected

    def test_equal_results(self):
        rng = random.Random(27)
        for family in some_families(28):
            self.assertIsNone(self.check(family, family))
            self.assertIsNone(self.check(family, some_parts(rng, merged_by_heads(family), 150)))

    def test_one_result_is_a_beginning_of_the_other(self):
        rng = random.Random(29)
        for family in some_families(30):
            result = merged_by_heads(family)
            if result:
                size = rng.randrange(len(result))
                shorter = some_parts(rng, result[:size], 12)
                self.assertEqual(self.check(shorter, family), size)
                self.assertEqual(self.check([[], []], family), 0)

    def test_results_that_differ(self):
        rng = random.Random(31)
        for family in some_families(32):
            result = merged_by_heads(family)
            if result:
                at = rng.randrange(len(result))
                changed = result[:at] + [result[at] + 2 * 10 ** 30] + result[at + 1:]
                self.assertEqual(self.check([changed], family), at)
        for family, other in itertools.combinations(some_families(33)[:120:3], 2):
            self.check(family, other)

    def test_small_results_against_each_other(self):
        lists = [list(numbers) for size in range(4) for numbers in itertools.permutations([1, 0, -1], size)]
        for one, other in itertools.product(lists, repeat=2):
            self.check([one], [[], other])

    def test_edges(self):
        self.assertIsNone(self.outcome(first_difference, [[]], [[], []]))
        self.assertEqual(self.outcome(first_difference, [[]], [[5]]), 0)
        self.assertEqual(self.outcome(first_difference, [[5]], [[], []]), 0)
        self.assertEqual(self.outcome(first_difference, [[5]], [[5, 4]]), 1)
        self.assertEqual(self.outcome(first_difference, [[0]], [[1]]), 0)
        longest = list(range(150))
        self.assertEqual(self.outcome(first_difference, [longest], [longest[:149]]), 149)

    def test_wrong_arguments(self):
        self.refuses_in_order(first_difference, [FAMILY, [[4], [3]]], [
            (0, NO_FAMILIES, InvalidFamily), (1, NO_FAMILIES, InvalidFamily)])


if __name__ == "__main__":
    unittest.main()
