"""leastheads.backwards: families with a given result, given lengths, blocks to move."""

import itertools
import math
import random
import unittest

from helpers import BIG, KINDS, NO_FAMILIES, NO_INTEGERS, NO_NUMBERS, SIZES, PromiseCase, Thing
from helpers import assignment_by_search, blocks_by_search, families_by_search, merged_by_heads, nested
from helpers import records_by_definition, small_results, some_families, some_numbers
from leastheads.backwards import (
    blocks_to_move, count_families, count_with_lengths, nth_family, nth_with_lengths, rank_of,
)
from leastheads.errors import (
    Different, InvalidCount, InvalidFamily, InvalidIndex, InvalidLengths, InvalidNumbers, TooMany,
)

RESULT = [3, 1, 4, 5, 2, 6, 0]
NO_COUNTS = NO_INTEGERS + [0, -1, -150, 151, 152, 10 ** 29, -BIG, [2], (2,), "2", [[2]], {2: 2}]


def are_lengths_by_definition(value):
    """Whether a value is lengths, as point 13 says."""
    if type(value) is not list or not value:
        return False
    return all(type(length) is int and length >= 0 for length in value)


NO_LENGTHS = [value for value in NO_NUMBERS if not are_lengths_by_definition(value)] + [
    [], [-1], [7, -1], [4, 3, -1], [-3, 10], [BIG, -1], (4, 3), (7,), [4, (3,)], [[4], [3]], [4, [3]],
    [True, 6], [7, False], [4, 3, True], [None, 7], ["4", "3"], "43", {4: 3}, {0: 4, 1: 3}, Thing(),
    nested(20, 7),
]


def product_of(lengths):
    """The product of all lengths, each one increased by 1."""
    return math.prod(length + 1 for length in lengths)


def lengths_up_to(most, many):
    """All lists of that many lengths from 0 to `most`."""
    return [list(lengths) for lengths in itertools.product(range(most + 1), repeat=many)]


class FamiliesTest(PromiseCase):
    def test_all_families_of_small_results(self):
        for most, many in ((4, 1), (4, 2), (3, 3), (2, 4)):
            for result in small_results(most):
                families = families_by_search(result, many)
                self.assertEqual(self.outcome(count_families, result, many), len(families))
                for number, family in enumerate(families):
                    self.assertEqual(self.outcome(nth_family, result, many, number), family)
                    self.assertEqual(self.outcome(rank_of, family), number)
                self.refuses(InvalidIndex, nth_family, result, many, len(families))

    def test_some_larger_results(self):
        for result, many in (([2, 1, 4, 3, 5], 2), ([1, 3, 2, 4], 3), ([1, 2, 3], 4)):
            families = families_by_search(result, many)
            self.assertEqual(count_families(result, many), len(families))
            self.assertEqual([nth_family(result, many, n) for n in range(len(families))], families)
            self.assertEqual([rank_of(family) for family in families], list(range(len(families))))

    def test_the_count_is_a_power(self):
        rng = random.Random(41)
        for size in SIZES:
            for kind in KINDS:
                result = some_numbers(rng, size, kind)
                for many in (1, 2, 7, 149, 150):
                    blocks = len(records_by_definition(result))
                    self.assertEqual(self.outcome(count_families, result, many), many ** blocks)

    def test_the_empty_result(self):
        for many in (1, 2, 150):
            self.assertEqual(self.outcome(count_families, [], many), 1)
            self.assertEqual(self.outcome(nth_family, [], many, 0), [[] for _ in range(many)])
            self.assertEqual(self.outcome(rank_of, [[] for _ in range(many)]), 0)
            self.refuses(InvalidIndex, nth_family, [], many, 1)

    def test_numbers_of_many_digits(self):
        rng = random.Random(42)
        for size in (40, 150):
            for kind in KINDS:
                result = some_numbers(rng, size, kind)
                for many in (1, 2, 10, 150):
                    self.check_some_numbers(rng, result, many)

    def check_some_numbers(self, rng, result, many):
        count = many ** len(records_by_definition(result))
        for number in (0, count - 1, rng.randrange(count), rng.randrange(count)):
            family = self.outcome(nth_family, result, many, number)
            self.assertEqual(len(family), many)
            self.assertEqual(merged_by_heads(family), result)
            self.assertEqual(self.outcome(rank_of, family), number)
            if number > 0:
                one = assignment_by_search(nth_family(result, many, number - 1), result)
                self.assertLess(one, assignment_by_search(family, result))
        for number in (count, count + 1, -1, -count, False, True):
            self.refuses(InvalidIndex, nth_family, result, many, number)

    def test_the_rank_of_families_of_all_sizes(self):
        for family in some_families(43):
            rank = self.outcome(rank_of, family)
            self.assertEqual(nth_family(merged_by_heads(family), len(family), rank), family)

    def test_somewhat_beyond_the_limits(self):
        result = list(range(200))
        self.assertEqual(count_families(result, 150), 150 ** 200)
        self.assertEqual(nth_family(result, 150, 150 ** 200 - 1)[149], result)
        self.assertEqual(rank_of([[] for _ in range(160)] + [result]), 161 ** 200 - 1)

    def test_changing_an_argument_later(self):
        self.later_change(nth_family, list(RESULT), 2, 5)

    def test_wrong_arguments(self):
        self.refuses_in_order(count_families, [RESULT, 2], [
            (0, NO_NUMBERS, InvalidNumbers), (1, NO_COUNTS, InvalidCount)])
        numbers = NO_INTEGERS + [-1, -16, 16, 17, 10 ** 29, [5], (5,), "5", [[5]]]
        self.refuses_in_order(nth_family, [RESULT, 2, 5], [
            (0, NO_NUMBERS, InvalidNumbers), (1, NO_COUNTS, InvalidCount), (2, numbers, InvalidIndex)])
        self.refuses_in_order(rank_of, [[[3, 1], [4]]], [(0, NO_FAMILIES, InvalidFamily)])


class LengthsTest(PromiseCase):
    def check(self, result, lengths, families):
        self.assertEqual(self.outcome(count_with_lengths, result, lengths), len(families))
        for number, family in enumerate(families):
            self.assertEqual(self.outcome(nth_with_lengths, result, lengths, number), family)
        for number in (len(families), -1, None, False, True):
            self.refuses(InvalidIndex, nth_with_lengths, result, lengths, number)

    def test_all_families_of_small_results(self):
        for most, many in ((4, 1), (4, 2), (3, 3), (2, 4)):
            for result in small_results(most):
                families = families_by_search(result, many)
                for lengths in lengths_up_to(len(result) + 1, many):
                    fitting = [family for family in families if [len(queue) for queue in family] == lengths]
                    self.check(result, lengths, fitting)

    def test_results_of_several_blocks_of_several_sizes(self):
        rng = random.Random(44)
        for result in (list(range(7)), [1, 0, 3, 2, 5, 4, 6], [2, 1, 0, 3, 6, 5, 4, 7, 8], [5, 6, 4, 3, 7]):
            for many in (2, 3):
                self.check_against_the_families(rng, result, many)

    def check_against_the_families(self, rng, result, many):
        by_lengths = {}
        for number in range(many ** len(records_by_definition(result))):
            family = nth_family(result, many, number)
            by_lengths.setdefault(tuple(len(queue) for queue in family), []).append(family)
        every = [tuple(lengths) for lengths in lengths_up_to(len(result), many) if sum(lengths) == len(result)]
        for lengths in rng.sample(every, min(12, len(every))):
            self.check(result, list(lengths), by_lengths.get(lengths, []))

    def test_the_empty_result(self):
        for many in (1, 2, 150):
            self.check([], [0] * many, [[[] for _ in range(many)]])
            self.check([], [0] * (many - 1) + [1], [])

    def test_a_sum_that_does_not_fit(self):
        for lengths in ([4, 4], [4, 2], [0], [6], [8], [0, 0], [7, 1], [6, 0], [1] * 14, [19999], [0] * 150):
            self.check(RESULT, lengths, [])

    def test_lengths_that_fit_but_no_blocks_do(self):
        self.check([3, 1], [1, 1], [])
        self.check([3, 1, 6, 2], [3, 1], [])
        self.check([4, 3, 2, 1], [0, 2, 2], [])

    def test_up_to_150_lengths(self):
        rng = random.Random(45)
        for result in (RESULT, [1, 2, 3], [2, 1, 3]):
            for filled in (1, 2, 3):
                at = sorted(rng.sample(range(150), filled))
                for short in lengths_up_to(len(result), filled):
                    if sum(short) == len(result):
                        self.check_spread(result, short, at)

    def check_spread(self, result, short, at):
        lengths = [0] * 150
        for index, length in zip(at, short):
            lengths[index] = length
        count = count_with_lengths(result, short)
        self.assertEqual(self.outcome(count_with_lengths, result, lengths), count)
        for number in range(count):
            family = self.outcome(nth_with_lengths, result, lengths, number)
            self.assertEqual(len(family), 150)
            self.assertEqual([family[index] for index in at], nth_with_lengths(result, short, number))
        self.refuses(InvalidIndex, nth_with_lengths, result, lengths, count)

    def test_one_number_in_each_block(self):
        for lengths in ([1] * 14, [9, 9, 9, 19], [4, 4, 4, 4, 31], [70, 80], [150], [0, 149, 1], [2] * 9):
            size = sum(lengths)
            count = math.factorial(size)
            for length in lengths:
                count //= math.factorial(length)
            self.assertEqual(count_with_lengths(list(range(size)), lengths), count)
            self.check_large(list(range(size)), lengths, count)

    def check_large(self, result, lengths, count):
        rng = random.Random(46)
        before = None
        for number in sorted({0, count - 1, rng.randrange(count), count // 2}):
            family = self.outcome(nth_with_lengths, result, lengths, number)
            self.assertEqual([len(queue) for queue in family], lengths)
            self.assertEqual(merged_by_heads(family), result)
            assignment = assignment_by_search(family, result)
            if before is not None:
                self.assertLess(before, assignment)
            before = assignment
        for number in (count, count + 1, -1, -count, False):
            self.refuses(InvalidIndex, nth_with_lengths, result, lengths, number)

    def test_large_results_of_blocks_of_all_sizes(self):
        rng = random.Random(47)
        for size in (40, 150):
            for kind in KINDS:
                for many in (1, 2, 3):
                    result = some_numbers(rng, size, kind)
                    family = [[] for _ in range(many)]
                    for block in blocks_by_search(result):
                        rng.choice(family).extend(block)
                    lengths = [len(queue) for queue in family]
                    if product_of(lengths) <= 20000:
                        count = count_with_lengths(result, lengths)
                        self.check_large(result, lengths, count)
                        self.assertGreater(count, 0)

    def test_as_many_cases_as_there_may_be(self):
        for lengths in ([9, 9, 9, 19], [4, 4, 4, 4, 31], [0, 19999], [1, 0, 9999], [124, 159], [19999, 0, 0]):
            self.assertEqual(product_of(lengths), 20000)
            for result in (RESULT, [], list(range(min(sum(lengths), 172)))):
                fits = len(result) == sum(lengths)
                self.assertEqual(count_with_lengths(result, lengths) > 0, fits)
                self.refuses(InvalidIndex, nth_with_lengths, result, lengths, -1)

    def test_too_many_cases(self):
        for lengths in (
            [2, 58, 112], [20000], [0, 20000, 0], [80, 12, 18], [2, 2, 2, 2, 12, 18], [1] * 15, [6, 6, 6, 6, 6, 6],
            [150, 150], [1] * 150, [BIG], [BIG] * 150, [BIG] * 2 + [0] * 148,
        ):
            self.assertGreater(product_of(lengths), 20000)
            for result in (RESULT, [], list(range(min(sum(lengths), 172)))):
                kept = self.refuses(TooMany, count_with_lengths, result, lengths)
                self.assertEqual(kept, {"many": product_of(lengths)})
                for number in (0, -1, None, True):
                    kept = self.refuses(TooMany, nth_with_lengths, result, lengths, number)
                    self.assertEqual(kept, {"many": product_of(lengths)})

    def test_the_next_greater_product(self):
        self.assertEqual(product_of([2, 58, 112]), 20001)
        self.assertEqual(product_of([80, 12, 18]), 20007)

    def test_changing_an_argument_later(self):
        self.later_change(nth_with_lengths, list(RESULT), [4, 3], 1)

    def test_wrong_arguments(self):
        many = [[20000], [4, 3, 10 ** 4], [1] * 15, [BIG] * 150]
        self.refuses_in_order(count_with_lengths, [RESULT, [4, 3]], [
            (0, NO_NUMBERS, InvalidNumbers), (1, NO_LENGTHS, InvalidLengths), (1, many, TooMany)])
        numbers = NO_INTEGERS + [-1, -3, 3, 4, 10 ** 29, BIG, [1], (1,), "1", [[1]]]
        self.refuses_in_order(nth_with_lengths, [RESULT, [4, 3], 1], [
            (0, NO_NUMBERS, InvalidNumbers), (1, NO_LENGTHS, InvalidLengths), (1, many, TooMany),
            (2, numbers, InvalidIndex)])

    def test_lengths_that_are_none_are_looked_at_before_their_product(self):
        for lengths in ([BIG, -1], [20000, True], [10 ** 5, 10 ** 5, None], [1] * 15 + [-1]):
            self.refuses(InvalidLengths, count_with_lengths, RESULT, lengths)
            self.refuses(InvalidLengths, nth_with_lengths, RESULT, lengths, 0)


class MoveTest(PromiseCase):
    def check(self, family, other):
        records = records_by_definition(merged_by_heads(family))
        expected = [
            record for record in records
            if [record in queue for queue in family] != [record in queue for queue in other]
        ]
        self.assertEqual(self.outcome(blocks_to_move, family, other), expected)

    def test_small_families_against_each_other(self):
        for result in small_results(3) + [[2, 1, 4, 3, 5]]:
            for many in (1, 2, 3):
                families = families_by_search(result, many) if len(result) < 5 or many < 3 else []
                for family, other in itertools.product(families, repeat=2):
                    self.check(family, other)

    def test_families_of_all_sizes_and_orders(self):
        rng = random.Random(48)
        for family in some_families(49):
            self.assertEqual(self.outcome(blocks_to_move, family, family), [])
            other = [[] for _ in family]
            for block in blocks_by_search(merged_by_heads(family)):
                rng.choice(other).extend(block)
            self.check(family, other)

    def test_edges(self):
        self.assertEqual(self.outcome(blocks_to_move, [[]], [[]]), [])
        self.assertEqual(self.outcome(blocks_to_move, [[3, 1], []], [[], [3, 1]]), [3])
        self.assertEqual(self.outcome(blocks_to_move, [[-5, BIG], []], [[], [-5, BIG]]), [-5, BIG])
        ups = [[number] for number in range(150)]
        self.assertEqual(self.outcome(blocks_to_move, ups, ups[::-1]), list(range(150)))

    def test_wrong_arguments(self):
        # Another result, another number of queues, both.
        other = [[[4], [1, 3]], [[3, 1], [5]], [[3, 1], []], [[3], [4]], [[], []]]
        fewer = [[[3, 1, 4]], [[3, 1], [4], []], [[3, 1], [4], [5]], [[3]], [[]]]
        self.refuses_in_order(blocks_to_move, [[[3, 1], [4]], [[3, 1, 4], []]], [
            (0, NO_FAMILIES, InvalidFamily), (1, NO_FAMILIES, InvalidFamily), (1, other + fewer, Different)])
        for family in other + fewer:
            self.refuses(Different, blocks_to_move, family, [[3, 1], [4]])


if __name__ == "__main__":
    unittest.main()
