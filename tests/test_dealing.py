"""leastheads.dealing: misplaced pairs, compatible blocks, dealings, the fewest queues."""

import itertools
import random
import unittest

from helpers import BIG, KINDS, NEVER, NO_FAMILIES, NO_INTEGERS, NO_NUMBERS, SIZES, PromiseCase, Thing
from helpers import blocks_by_search, merged_by_heads, nested, records_by_definition, some_numbers
from leastheads.dealing import (
    are_compatible, are_incompatible, fewest_dealing, fewest_queues, incompatible_blocks, is_dealing,
    misplaced_pair,
)
from leastheads.errors import Different, InvalidNumbers, Misplaced, UnknownNumber

GIVEN = [4, 3, 5, 1, 6, 2, 0]
WANTED = [3, 1, 4, 5, 2, 6, 0]
# No records of the wanted list, though True is equal to a number of it.
NO_RECORDS = NO_INTEGERS + [1, 2, 0, 7, -1, -3, BIG, -BIG, 10 ** 29, [3], (3,), "3", [[3]], {3: 3}]


def misplaced_by_search(given, wanted):
    """All misplaced pairs, as point 17 says, in the order of the wanted list."""
    return [
        pair for block in blocks_by_search(wanted) for pair in zip(block, block[1:])
        if given.index(pair[0]) > given.index(pair[1])
    ]


def compatible_by_search(given, wanted, one, other):
    """Whether two records are of different, compatible blocks, as point 18 says."""
    if one == other:
        return False
    last = next(block for block in blocks_by_search(wanted) if block[0] == min(one, other))[-1]
    return given.index(last) < given.index(max(one, other))


def dealings_by_search(given, many):
    """All families of that many queues into which a list can be dealt, as point 16 says."""
    families = []
    for queues in itertools.product(range(many), repeat=len(given)):
        family = [[] for _ in range(many)]
        for number, queue in zip(given, queues):
            family[queue].append(number)
        families.append(family)
    return families


def fewest_by_search(given):
    """For each list that the merger can return, the fewest non-empty queues of a dealing."""
    fewest = {}
    for family in dealings_by_search(given, max(len(given), 1)):
        result = tuple(merged_by_heads(family))
        many = sum(len(queue) > 0 for queue in family)
        fewest[result] = min(many, fewest.get(result, many))
    return fewest


def subsets(items):
    """All sublists of a list, in its order."""
    return [
        list(chosen) for size in range(len(items) + 1) for chosen in itertools.combinations(items, size)]


def is_apart_by_search(given, wanted, records):
    """Whether the blocks of records are incompatible in pairs, as point 18 says."""
    pairs = itertools.combinations(records, 2)
    return not any(compatible_by_search(given, wanted, one, other) for one, other in pairs)


def some_pair(rng, size, kind, many):
    """A given and a wanted list of so many numbers for which there is a dealing."""
    wanted = some_numbers(rng, size, kind)
    family = [[] for _ in range(many)]
    for block in blocks_by_search(wanted):
        rng.choice(family).extend(block)
    left = [list(queue) for queue in family]
    given = []
    while any(left):
        given.append(rng.choice([queue for queue in left if queue]).pop(0))
    return given, wanted


def some_pairs(seed):
    """Pairs as above of all sizes and orders, for few and for many queues."""
    rng = random.Random(seed)
    return [
        some_pair(rng, size, kind, many)
        for size in SIZES for kind in KINDS for many in (1, 2, 5, 20, 150)
    ]


def small_pairs(most):
    """All pairs of lists of the same numbers, up to that many."""
    for size in range(most + 1):
        lists = [list(numbers) for numbers in itertools.permutations(range(-1, size - 1))]
        yield from itertools.product(lists, repeat=2)


LISTS = [(0, NO_NUMBERS, InvalidNumbers), (1, NO_NUMBERS, InvalidNumbers)]
OTHERS = [
    (0, [[], [7], [3, 1, 4, 5, 2, 6], list(range(8)), [4, 3, 5, 1, 6, 2, -1]], Different),
    (1, [[8], [3, 1, 4, 5, 2, 6, 0, 9], [3, 1, 4, 5, 2, 6, 9], [3, 1], [BIG]], Different),
]
ORDERED = LISTS + OTHERS


class MisplacedTest(PromiseCase):
    def test_small_lists(self):
        for given, wanted in small_pairs(4):
            pairs = misplaced_by_search(given, wanted)
            self.assertEqual(self.outcome(misplaced_pair, given, wanted), pairs[0] if pairs else None)

    def test_there_is_a_dealing_if_and_only_if_no_pair_is_misplaced(self):
        for given, wanted in small_pairs(4):
            results = fewest_by_search(given)
            self.assertIs(misplaced_pair(given, wanted) is None, tuple(wanted) in results)

    def test_lists_of_all_sizes_and_orders(self):
        rng = random.Random(81)
        for given, wanted in some_pairs(82):
            self.assertIsNone(self.outcome(misplaced_pair, given, wanted))
            shuffled = rng.sample(given, len(given))
            pairs = misplaced_by_search(shuffled, wanted)
            found = self.outcome(misplaced_pair, shuffled, wanted)
            self.assertEqual(found, pairs[0] if pairs else None)
            if pairs:
                self.assertIs(type(found), tuple)

    def test_the_pair_of_the_error_is_the_misplaced_pair(self):
        pairs = [([1, 3, 2], [3, 1, 2]), ([1, 2, 3], [3, 2, 1]), ([2, 1, 4, 3, 0], [2, 1, 4, 0, 3])]
        pairs.extend(pair for pair in small_pairs(4) if misplaced_by_search(*pair))
        for given, wanted in pairs:
            expected = {"pair": misplaced_by_search(given, wanted)[0]}
            for function in (fewest_queues, fewest_dealing, incompatible_blocks):
                self.assertEqual(self.refuses(Misplaced, function, given, wanted), expected)

    def test_edges(self):
        self.assertIsNone(self.outcome(misplaced_pair, [], []))
        self.assertIsNone(self.outcome(misplaced_pair, [5], [5]))
        self.assertIsNone(self.outcome(misplaced_pair, [2, 1], [1, 2]))
        self.assertEqual(self.outcome(misplaced_pair, [1, 2], [2, 1]), (2, 1))
        self.assertEqual(self.outcome(misplaced_pair, [-BIG, 0, BIG], [BIG, 0, -BIG]), (BIG, 0))
        down = list(range(149, -1, -1))
        self.assertIsNone(self.outcome(misplaced_pair, down, down))
        self.assertEqual(self.outcome(misplaced_pair, down[::-1], down), (149, 148))
        swapped = down[:148] + [0, 1]
        self.assertEqual(self.outcome(misplaced_pair, swapped, down), (1, 0))

    def test_wrong_arguments(self):
        self.refuses_in_order(misplaced_pair, [GIVEN, WANTED], ORDERED)
        # These lists are different, and a pair would be misplaced.
        self.refuses(Different, misplaced_pair, [1, 3, 2], [3, 1, 2, 5])


class CompatibleTest(PromiseCase):
    def test_small_lists(self):
        for given, wanted in small_pairs(4):
            records = records_by_definition(wanted)
            for one, other in itertools.product(records, repeat=2):
                expected = compatible_by_search(given, wanted, one, other)
                self.says(expected, are_compatible, given, wanted, one, other)

    def test_compatible_blocks_can_be_in_one_queue(self):
        for given, wanted in small_pairs(4):
            if misplaced_pair(given, wanted) is None:
                for one, other in itertools.combinations(records_by_definition(wanted), 2):
                    both = sum([block for block in blocks_by_search(wanted) if block[0] in (one, other)], [])
                    expected = both == [number for number in given if number in both]
                    self.assertIs(are_compatible(given, wanted, one, other), expected)

    def test_lists_of_all_sizes_and_orders(self):
        rng = random.Random(83)
        for given, wanted in some_pairs(84):
            records = records_by_definition(wanted)
            for _ in range(3 if records else 0):
                one, other = rng.choice(records), rng.choice(records)
                expected = compatible_by_search(given, wanted, one, other)
                self.says(expected, are_compatible, given, wanted, one, other)

    def test_the_wrong_order_within_a_block_does_not_matter_here(self):
        self.says(False, are_compatible, [1, 3, 4, 2], [3, 1, 2, 4], 3, 4)
        self.says(True, are_compatible, [1, 3, 2, 4], [3, 1, 2, 4], 3, 4)
        self.says(True, are_compatible, [1, 4, 3], [3, 1, 4], 3, 4)
        self.says(False, are_compatible, [4, 3, 1], [3, 1, 4], 4, 3)

    def test_wrong_arguments(self):
        self.refuses_in_order(are_compatible, [GIVEN, WANTED, 5, 4], ORDERED + [
            (2, NO_RECORDS, UnknownNumber), (3, NO_RECORDS, UnknownNumber)])
        for value in (0, 1, None, True, [0]):
            self.refuses(UnknownNumber, are_compatible, [], [], value, value)


class DealingTest(PromiseCase):
    def test_all_dealings_of_small_lists(self):
        for given, wanted in small_pairs(3):
            for many in (1, 2, 3):
                for family in dealings_by_search(given, many):
                    self.says(merged_by_heads(family) == wanted, is_dealing, given, wanted, family)

    def test_dealings_of_four_numbers(self):
        for given in itertools.permutations([0, 1, 2, 3]):
            for family in dealings_by_search(given, 3):
                result = merged_by_heads(family)
                self.assertIs(is_dealing(list(given), result, family), True)
                self.assertIs(is_dealing(list(given), result[::-1], family), False)

    def test_all_families_with_the_wanted_result(self):
        for given, wanted in small_pairs(4):
            dealt = [family for family in dealings_by_search(given, 2) if merged_by_heads(family) == wanted]
            for queues in itertools.product((0, 1), repeat=len(records_by_definition(wanted))):
                family = [[], []]
                for block, queue in zip(blocks_by_search(wanted), queues):
                    family[queue].extend(block)
                self.assertIs(is_dealing(given, wanted, family), family in dealt)

    def test_values_of_every_kind(self):
        for value in NO_FAMILIES + [
            [WANTED], [WANTED, []], [[3, 1, 5, 2], [4, 6, 0]], ([4, 5, 2], [3, 1, 6, 0]), [(4, 5, 2), (3, 1, 6, 0)],
            [[4, 5, 2], [3, 1, 6]], [[4, 5, 2], [3, 1, 6, 0], [7]], [[4, 5, 2, 7], [3, 1, 6, 0]], [GIVEN],
            [[4, 5, 2], [3, 1, 6, False]], [[4, 5, 2], [3, True, 6, 0]], [[number] for number in WANTED],
            [[5, 4, 2], [3, 1, 6, 0]], GIVEN, WANTED, [[]], [[], []], [[4, 5, 2], [3, 1, 6, 0], None],
        ]:
            self.says(False, is_dealing, GIVEN, WANTED, value)
        for value in ([[4, 5, 2], [3, 1, 6, 0]], [[], [3, 1, 6, 0], [4, 5, 2]], [[3, 1], [4, 5, 2], [6, 0]]):
            self.says(True, is_dealing, GIVEN, WANTED, value)

    def test_empty_queues_and_empty_lists(self):
        for value in ([[]], [[], []], [[] for _ in range(150)]):
            self.says(True, is_dealing, [], [], value)
            self.says(True, is_dealing, [5], [5], value + [[5]])
            self.says(False, is_dealing, [5], [5], value)
        for value in ([], [[5]], None, [None], ([],), [()]):
            self.says(False, is_dealing, [], [], value)

    def test_lists_with_a_misplaced_pair_have_no_dealing(self):
        for value in ([[1, 3, 2]], [[3, 1, 2]], [[1], [3, 2]], [[3, 2], [1]], [[3], [1], [2]], [[3, 1], [2]]):
            self.says(False, is_dealing, [1, 3, 2], [3, 1, 2], value)

    def test_lists_of_all_sizes_and_orders(self):
        rng = random.Random(85)
        for given, wanted in some_pairs(86):
            family = fewest_dealing(given, wanted)
            self.says(True, is_dealing, given, wanted, family)
            self.says(True, is_dealing, given, wanted, family[::-1] + [[]])
            if len(given) > 1:
                shuffled = [rng.sample(queue, len(queue)) for queue in family]
                self.says(shuffled == family, is_dealing, given, wanted, shuffled)

    def test_wrong_arguments(self):
        self.refuses_in_order(is_dealing, [GIVEN, WANTED, [[4, 5, 2], [3, 1, 6, 0]]], ORDERED)
        self.refuses(InvalidNumbers, is_dealing, None, None, None)
        self.refuses(Different, is_dealing, [1], [2], None)


class FewestTest(PromiseCase):
    def check(self, given, wanted, fewest):
        many = self.outcome(fewest_queues, given, wanted)
        self.assertEqual(many, fewest)
        self.assertIs(type(many), int)
        family = self.outcome(fewest_dealing, given, wanted)
        records = self.outcome(incompatible_blocks, given, wanted)
        self.assertEqual(len(records), fewest)
        self.says(True, is_dealing, given, wanted, family)
        self.says(True, are_incompatible, given, wanted, records)
        self.assertTrue(is_apart_by_search(given, wanted, records[:25] + records[25:][-25:]))
        self.assertEqual(records, sorted(records))
        if given:
            self.assertEqual(len(family), fewest)
            self.assertNotIn([], family)
        else:
            self.assertEqual(family, [[]])

    def test_small_lists(self):
        for size in range(5):
            lists = [list(numbers) for numbers in itertools.permutations(range(-1, size - 1))]
            for given in lists:
                fewest = fewest_by_search(given)
                for wanted in lists:
                    if tuple(wanted) in fewest:
                        self.check(given, wanted, fewest[tuple(wanted)])
                    else:
                        self.refuses(Misplaced, fewest_queues, given, wanted)
                        self.refuses(Misplaced, fewest_dealing, given, wanted)
                        self.refuses(Misplaced, incompatible_blocks, given, wanted)

    def test_the_greatest_number_of_incompatible_blocks(self):
        for given, wanted in small_pairs(4):
            if not misplaced_by_search(given, wanted):
                apart = [
                    records for records in subsets(records_by_definition(wanted))
                    if is_apart_by_search(given, wanted, records)]
                self.assertEqual(fewest_queues(given, wanted), max(len(records) for records in apart))
                self.assertIn(incompatible_blocks(given, wanted), apart)

    def test_some_lists_of_five_and_six_numbers(self):
        rng = random.Random(87)
        for size, tries in ((5, 12), (6, 2)):
            for _ in range(tries):
                given = some_numbers(rng, size, "random")
                for wanted, fewest in fewest_by_search(given).items():
                    self.check(given, list(wanted), fewest)

    def test_lists_of_all_sizes_and_orders(self):
        # As many incompatible blocks as queues: so neither could be fewer or more.
        for given, wanted in some_pairs(88):
            self.check(given, wanted, len(fewest_dealing(given, wanted)) if given else 0)

    def test_lists_of_150_numbers(self):
        rng = random.Random(89)
        for _ in range(40):
            kind = rng.choice(["ascending", "nearly"])
            given, wanted = some_pair(rng, 150, kind, rng.choice([2, 3, 8, 30, 150]))
            self.check(given, wanted, len(fewest_dealing(given, wanted)))
            self.assertGreater(fewest_queues(given, wanted), 1)

    def test_sorted_and_descending_lists(self):
        for size in (1, 2, 7, 150):
            up = list(range(-3, size - 3))
            down = up[::-1]
            self.check(up, up, 1)
            self.check(down, down, 1)
            self.check(down, up, size)
            self.assertEqual(incompatible_blocks(down, up), up)
            self.assertEqual(fewest_dealing(up, up), [up])
            if size > 1:
                for function in (fewest_queues, fewest_dealing, incompatible_blocks):
                    kept = self.refuses(Misplaced, function, up, down)
                    self.assertEqual(kept, {"pair": (down[0], down[1])})

    def test_the_empty_lists(self):
        self.check([], [], 0)
        self.assertEqual(self.outcome(incompatible_blocks, [], []), [])

    def test_numbers_of_thirty_digits(self):
        self.check([BIG, -BIG, 0], [-BIG, 0, BIG], 2)
        self.check([0, BIG, -BIG], [0, BIG, -BIG], 1)

    def test_somewhat_beyond_the_limits(self):
        up = list(range(200))
        self.check(up[::-1], up, 200)
        self.check(up[100:] + up[:100], up, 2)

    def test_changing_an_argument_later(self):
        self.later_change(fewest_dealing, list(GIVEN), list(WANTED))
        self.later_change(incompatible_blocks, list(GIVEN), list(WANTED))

    def test_wrong_arguments(self):
        for function in (fewest_queues, fewest_dealing, incompatible_blocks):
            misplaced = [(0, [[1, 4, 3, 5, 6, 2, 0], [0, 1, 2, 3, 4, 5, 6]], Misplaced)]
            self.refuses_in_order(function, [GIVEN, WANTED], ORDERED + misplaced)


class IncompatibleTest(PromiseCase):
    def test_all_lists_of_records_of_small_lists(self):
        for given, wanted in small_pairs(4):
            for records in subsets(records_by_definition(wanted)):
                expected = is_apart_by_search(given, wanted, records)
                self.says(expected, are_incompatible, given, wanted, records)

    def test_other_orders_and_other_numbers(self):
        for given, wanted in small_pairs(3):
            records = records_by_definition(wanted)
            for size in range(4):
                for value in itertools.product([-2, *wanted, 9], repeat=size):
                    fits = list(value) in subsets(records)
                    expected = fits and is_apart_by_search(given, wanted, value)
                    self.assertIs(are_incompatible(given, wanted, list(value)), expected)

    def test_values_of_every_kind(self):
        for value in NEVER + [
            [4, 3], [3, 3], [4, 4], [3, 4, 4], [4, 5], [3, 4, 5], [3, 4, 5, 6], [1], [2], [0], [0, 3], [1, 4], [3, 7],
            [7], [-1], [-3, 3], [3, BIG], (3, 4), (), (3,), "34", "", {3: 4}, {}, {3, 4}, [3, None], ["3"], [3, "4"],
            [[3], [4]], [[3, 4]], [(3, 4)], [True, 3], [True], [False], [3, True], [Thing()], nested(20, 3), WANTED,
        ]:
            self.says(False, are_incompatible, GIVEN, WANTED, value)
        for value in ([], [3], [4], [5], [6], [3, 4], [5, 6][:1]):
            self.says(True, are_incompatible, GIVEN, WANTED, value)

    def test_true_and_false_are_no_records(self):
        self.says(True, are_incompatible, [1, 0], [0, 1], [0, 1])
        for value in ([False, 1], [0, True], [False, True], [True], [False]):
            self.says(False, are_incompatible, [1, 0], [0, 1], value)

    def test_the_empty_list_and_lists_with_one_record(self):
        self.says(True, are_incompatible, [], [], [])
        self.says(False, are_incompatible, [], [], [0])
        for given, wanted in some_pairs(90):
            self.says(True, are_incompatible, given, wanted, [])
            for record in records_by_definition(wanted)[:3]:
                self.says(True, are_incompatible, given, wanted, [record])

    def test_also_where_a_pair_is_misplaced(self):
        self.says(True, are_incompatible, [4, 1, 3], [3, 1, 4], [3, 4])
        self.says(True, are_incompatible, [3, 4, 1], [3, 1, 4], [3, 4])
        self.says(False, are_incompatible, [1, 4, 3], [3, 1, 4], [3, 4])

    def test_150_blocks(self):
        up = list(range(150))
        self.says(True, are_incompatible, up[::-1], up, up)
        self.says(False, are_incompatible, up, up, up)
        self.says(False, are_incompatible, up[:0:-1] + [0], up, up[::-1])
        self.says(False, are_incompatible, [0] + up[:0:-1], up, up)
        self.says(True, are_incompatible, [0] + up[:0:-1], up, up[1:])

    def test_wrong_arguments(self):
        self.refuses_in_order(are_incompatible, [GIVEN, WANTED, [3, 4]], ORDERED)
        self.refuses(InvalidNumbers, are_incompatible, None, None, None)
        self.refuses(Different, are_incompatible, [1], [2], None)


if __name__ == "__main__":
    unittest.main()
