"""leastheads.facts: facts, contradictions, the families that satisfy facts."""

import itertools
import random
import unittest

from helpers import BIG, NEVER, NO_FAMILIES, NO_INTEGERS, NO_NUMBERS, PromiseCase, Same, Thing
from helpers import assignment_by_search, families_by_search, merged_by_heads, nested, nested_tuples
from helpers import records_by_definition, small_results, some_numbers
from leastheads.errors import Contradiction, InvalidFacts, InvalidIndex, InvalidNumbers
from leastheads.facts import (
    are_facts, contradiction_of, count_satisfying, follows, is_contradiction, nth_satisfying, satisfies,
)

RESULT = [3, 1, 4, 5, 2, 6, 0]
FACTS = [("same", 1, 0), ("apart", 4, 6)]
AGAINST = [("same", 3, 4), ("apart", 1, 4), ("in", 5, 0)]
# Not facts about RESULT, though True and False are equal to numbers of it and to indices.
NO_FACT = NEVER + [
    ("same",), ("same", 3), ("same", 3, 4, 5), ("in", 3), ("in", 3, 0, 1), ["same", 3, 4], ["in", 3, 0],
    ("same", 3, 3), ("apart", 0, 0), ("same", 3, 7), ("same", 7, 3), ("apart", -1, 3), ("apart", 3, BIG),
    ("same", True, 3), ("same", 3, True), ("apart", False, 3), ("apart", 3, False), ("same", 1, True),
    ("in", True, 0), ("in", False, 1), ("in", 3, True), ("in", 3, False), ("in", 3, 2), ("in", 3, -1),
    ("in", 7, 0), ("in", 3, None), ("in", 3, "0"), ("in", 3, [0]), ("in", 3, (0,)), ("in", [3], 0),
    ("in", (3,), 0), ("in", None, 0), ("in", 3, 4), ("in", "3", 0), ("in", {}, 0), ("in", 0, 5),
    ("Same", 3, 4), ("", 3, 4), ("same ", 3, 4), ("IN", 3, 0), ("not", 3, 4), (b"same", 3, 4), (b"in", 3, 0),
    (None, 3, 4), (0, 3, 4), (True, 3, 4), (["same"], 3, 4), (("same",), 3, 4), ({"same": 1}, 3, 4),
    (Same(), 3, 4), (Same(), 3, 0), ("in", 3, Same()), ("same", 3, Same()), ("apart", Same(), 3),
    (Thing(), 3, 4), ("same", Thing(), 4), ("same", 3, Thing()), ("in", 3, Thing()), ("same", None, 4),
    ("same", "3", "4"), ("same", [3], 4), ("same", 3, [4]), ("same", (3,), 4), ("apart", 3, {4: 4}),
    (3, "same", 4), (3, 4, "same"), ("same", {3}, 4), nested(20, 3), nested_tuples(20, "same"),
    ("same", nested(19, 3), 4), "same", "same 3 4", "in", ("sam", "e", 3),
]
NO_FACTS = NEVER + [[fact] for fact in NO_FACT] + [[FACTS[0], fact] for fact in NO_FACT] + [
    tuple(FACTS), (FACTS[0],), FACTS[0], list(FACTS[0]), [list(FACTS[0])], [FACTS], [[]], {0: FACTS[0]},
    {FACTS[0]: True}, [FACTS[0], None], [None, FACTS[0]], "same",
]


def is_true(fact, family):
    """Whether a family satisfies a fact, as point 14 says."""
    word, one, other = fact
    first = [one in queue for queue in family].index(True)
    if word == "in":
        return first == other
    second = [other in queue for queue in family].index(True)
    return first == second if word == "same" else first != second


def satisfying(families, facts):
    """The families that satisfy all facts, in their order."""
    return [family for family in families if all(is_true(fact, family) for fact in facts)]


def is_contradiction_by_search(families, facts, indices):
    """Whether an ascending list of indices is a contradiction, as point 14 says."""
    if satisfying(families, [facts[index] for index in indices]):
        return False
    return all(
        satisfying(families, [facts[index] for index in indices if index != out]) for out in indices)


def every_fact(result):
    """All facts about numbers of a result."""
    facts = [("in", number, queue) for number in result for queue in (0, 1)]
    for one, other in itertools.permutations(result, 2):
        facts.extend([("same", one, other), ("apart", one, other)])
    return facts


def some_facts(rng, result, many):
    """That many facts of all three forms, perhaps some of them twice."""
    every = every_fact(result)
    return [rng.choice(every) for _ in range(many)] if every else []


def true_facts(rng, family, many):
    """That many facts that the family satisfies."""
    numbers = [number for queue in family for number in queue]
    facts = []
    while len(facts) < many:
        one, other = rng.sample(numbers, 2)
        word = rng.choice(["same", "apart", "in"])
        fact = (word, one, rng.choice([0, 1]) if word == "in" else other)
        if is_true(fact, family):
            facts.append(fact)
    return facts


def cases(seed, most, many):
    """Small results with their families of two queues and some lists of facts about them."""
    rng = random.Random(seed)
    for result in small_results(most) + [[2, 1, 4, 3, 5], [1, 2, 3, 4, 5], [5, 1, 2, 3, 4], [1, 5, 2, 4, 3]]:
        families = families_by_search(result, 2)
        yield result, families, []
        for _ in range(many):
            yield result, families, some_facts(rng, result, rng.randint(1, 5))


class KindsTest(PromiseCase):
    def test_every_fact_of_small_results(self):
        for result in small_results(4):
            facts = every_fact(result)
            self.says(True, are_facts, result, facts)
            for fact in facts:
                self.says(True, are_facts, result, [fact])

    def test_facts(self):
        for value in ([], FACTS, AGAINST, FACTS + FACTS, [("in", 0, 0), ("in", 0, 1)], [("same", 3, 1)],
                      [("apart", 3, 1)], [("same", 1, 3)], every_fact(RESULT)[:60], [FACTS[0]] * 60):
            self.says(True, are_facts, RESULT, value)
        self.says(True, are_facts, [BIG, -BIG], [("apart", -BIG, BIG), ("in", -BIG, 1)])

    def test_no_facts(self):
        for value in NO_FACTS:
            self.says(False, are_facts, RESULT, value)

    def test_the_empty_result_has_no_facts_but_the_empty_list(self):
        self.says(True, are_facts, [], [])
        for value in NO_FACTS + [FACTS, AGAINST, [("in", 3, 0)]]:
            self.says(False, are_facts, [], value)

    def test_one_number_has_no_facts_about_two(self):
        self.says(True, are_facts, [5], [("in", 5, 0), ("in", 5, 1)])
        self.says(False, are_facts, [5], [("same", 5, 5)])

    def test_wrong_arguments(self):
        self.refuses_in_order(are_facts, [RESULT, FACTS], [(0, NO_NUMBERS, InvalidNumbers)])
        for value in NO_NUMBERS[::3]:
            self.refuses(InvalidNumbers, are_facts, value, value)


class SatisfiesTest(PromiseCase):
    def test_all_families_of_small_results(self):
        for result, families, facts in cases(61, 4, 4):
            for family in families:
                expected = all(is_true(fact, family) for fact in facts)
                self.says(expected, satisfies, result, facts, family)

    def test_every_fact_with_every_family(self):
        for result in ([3, 1, 4, 2], [1, 2, 3], [3, 2, 1]):
            for fact in every_fact(result):
                for family in families_by_search(result, 2):
                    self.says(is_true(fact, family), satisfies, result, [fact], family)

    def test_values_of_every_kind(self):
        for value in NO_FAMILIES + [
            [RESULT], [RESULT, [], []], [[3, 1, 4], [5, 2], [6, 0]], (RESULT, []), [tuple(RESULT), []],
            [[3, 1, 6, 0], (4, 5, 2)], [[3, 1], [4, 5, 2, 6]], [[3, 1, 0, 6], [4, 5, 2]], [RESULT, [7]],
            [[1, 3], [4, 5, 2, 6, 0]], [[3, True, 6, 0], [4, 5, 2]], [[3, 1, 6, False], [4, 5, 2]], RESULT,
            [[], []], [[6, 0, 3, 1], [4, 5, 2]],
        ]:
            for facts in ([], FACTS, AGAINST):
                self.says(False, satisfies, RESULT, facts, value)

    def test_the_empty_result(self):
        self.says(True, satisfies, [], [], [[], []])
        for value in ([[]], [[], [], []], [], [[5], []], None, ([], [])):
            self.says(False, satisfies, [], [], value)

    def test_sixty_facts(self):
        rng = random.Random(62)
        for size in (60, 150):
            family = nth_satisfying(some_numbers(rng, size, "nearly"), [], 12345)
            facts = true_facts(rng, family, 60)
            result = merged_by_heads(family)
            self.says(True, satisfies, result, facts, family)
            word, one, other = facts[59]
            wrong = (word, one, 1 - other) if word == "in" else ({"same": "apart", "apart": "same"}[word], one, other)
            self.says(False, satisfies, result, facts[:59] + [wrong], family)

    def test_wrong_arguments(self):
        self.refuses_in_order(satisfies, [RESULT, FACTS, [[4, 5, 2], [3, 1, 6, 0]]], [
            (0, NO_NUMBERS, InvalidNumbers), (1, NO_FACTS, InvalidFacts)])
        self.refuses(InvalidNumbers, satisfies, None, None, None)
        self.refuses(InvalidFacts, satisfies, RESULT, None, None)


class ContradictionTest(PromiseCase):
    def check(self, result, families, facts):
        found = self.outcome(contradiction_of, result, facts)
        if satisfying(families, facts):
            self.assertIsNone(found)
        else:
            self.assertTrue(is_contradiction_by_search(families, facts, found), (result, facts, found))
            self.assertEqual(found, sorted(set(found)))
            self.says(True, is_contradiction, result, facts, found)
        return found

    def test_facts_about_small_results(self):
        sizes = set()
        for result, families, facts in cases(63, 4, 20):
            sizes.add(len(self.check(result, families, facts) or []))
        self.assertEqual(sizes, {0, 1, 2, 3, 4})

    def test_all_lists_of_indices(self):
        for result, families, facts in cases(64, 4, 2):
            for size in range(len(facts) + 1):
                for indices in itertools.combinations(range(len(facts)), size):
                    expected = is_contradiction_by_search(families, facts, indices)
                    self.says(expected, is_contradiction, result, facts, list(indices))

    def test_contradictions_of_one_fact(self):
        facts = [("in", 3, 0), ("apart", 1, 3), ("same", 3, 1)]
        self.assertEqual(self.outcome(contradiction_of, RESULT, facts), [1])
        self.says(True, is_contradiction, RESULT, facts, [1])
        for value in ([], [0], [2], [0, 1], [1, 2], [0, 1, 2]):
            self.says(False, is_contradiction, RESULT, facts, value)

    def test_contradictions_of_two_facts(self):
        for facts in (
            [("in", 3, 0), ("in", 1, 1)], [("in", 3, 0), ("in", 3, 1)], [("same", 3, 4), ("apart", 3, 4)],
            [("same", 3, 4), ("apart", 4, 1)], [("apart", 5, 6), ("same", 0, 2)],
        ):
            self.assertEqual(self.outcome(contradiction_of, RESULT, facts), [0, 1])
            self.says(True, is_contradiction, RESULT, facts, [0, 1])
            self.says(False, is_contradiction, RESULT, facts + facts, [0, 1, 2])
            self.says(True, is_contradiction, RESULT, facts + facts, [2, 3])
            self.says(True, is_contradiction, RESULT, facts + facts, [0, 3])
            self.says(False, is_contradiction, RESULT, facts + facts, [0, 2])

    def test_contradictions_of_three_and_more_facts(self):
        three = [("apart", 3, 4), ("apart", 4, 5), ("apart", 2, 1)]
        self.assertEqual(self.outcome(contradiction_of, RESULT, three), [0, 1, 2])
        three = [("in", 3, 0), ("in", 6, 0), ("apart", 1, 0)]
        self.assertEqual(self.outcome(contradiction_of, RESULT, three), [0, 1, 2])
        five = [("in", 3, 0), ("same", 3, 4), ("apart", 4, 5), ("apart", 5, 6), ("in", 0, 1)]
        self.assertEqual(self.outcome(contradiction_of, RESULT, five), [0, 1, 2, 3, 4])
        self.says(True, is_contradiction, RESULT, five, [0, 1, 2, 3, 4])
        self.says(False, is_contradiction, RESULT, five, [0, 1, 2, 3])
        self.says(False, is_contradiction, RESULT, five, [1, 2, 3, 4])

    def test_doubled_facts_and_no_facts(self):
        self.assertIsNone(self.outcome(contradiction_of, RESULT, []))
        self.assertIsNone(self.outcome(contradiction_of, [], []))
        self.assertIsNone(self.outcome(contradiction_of, RESULT, FACTS * 30))
        self.says(False, is_contradiction, RESULT, [], [])
        self.says(False, is_contradiction, [], [], [])
        doubled = AGAINST * 20
        found = self.outcome(contradiction_of, RESULT, doubled)
        self.says(True, is_contradiction, RESULT, doubled, found)
        self.assertEqual(len(found), 2)
        self.says(True, is_contradiction, RESULT, doubled, [0, 58])
        self.says(False, is_contradiction, RESULT, doubled, [0, 57, 58])

    def test_a_contradiction_of_sixty_facts(self):
        rng = random.Random(65)
        for size in (60, 150):
            result = list(range(-7, size - 7))
            around = [("apart", one, one + 1) for one in range(-7, 52)] + [("same", -7, 52)]
            rng.shuffle(around)
            self.assertEqual(self.outcome(contradiction_of, result, around), list(range(60)))
            self.says(True, is_contradiction, result, around, list(range(60)))
            for out in (0, 30, 59):
                fewer = [index for index in range(60) if index != out]
                self.says(False, is_contradiction, result, around, fewer)
                self.assertIsNone(contradiction_of(result, [around[index] for index in fewer]))

    def test_sixty_facts_about_large_results(self):
        rng = random.Random(66)
        for kind in ("nearly", "ascending", "random", "descending"):
            for size in (5, 20, 150):
                result = some_numbers(rng, size, kind)
                facts = some_facts(rng, result, 60)
                found = self.outcome(contradiction_of, result, facts)
                if found is None:
                    self.assertGreater(count_satisfying(result, facts), 0)
                else:
                    self.says(True, is_contradiction, result, facts, found)
                    self.assertEqual(count_satisfying(result, facts), 0)
                    for out in found:
                        fewer = [facts[index] for index in found if index != out]
                        self.says(True, satisfies, result, fewer, nth_satisfying(result, fewer, 0))

    def test_values_that_are_no_contradiction(self):
        for value in NEVER + [
            [1, 0], [0, 0], [0, 0, 1], [0, 1, 1], [1, 1], [0, 1, 2], [2, 1, 0], [0], [1], [2], [], [0, 2], [1, 2],
            [0, 1, 3], [0, 1, 99], [-3, 1], [-3, -2], [0, -2], [-1, 0, 1], [3], [-1], [0, 10 ** 29], (0, 1), "01",
            [False, True], [0, True], [False, 1], [True], [False], [0, 1, None], ["0", "1"], [[0], [1]], [[0, 1]],
            [(0, 1)], {0: 1}, {0, 1}, {0: 0, 1: 1}, range(2), AGAINST, AGAINST[:2], nested(20, 0),
        ]:
            self.says(False, is_contradiction, RESULT, AGAINST, value)
        self.says(True, is_contradiction, RESULT, AGAINST, [0, 1])

    def test_true_and_false_are_no_indices(self):
        facts = [("apart", 3, 1), ("apart", 6, 0)]
        self.says(True, is_contradiction, RESULT, facts, [0])
        self.says(True, is_contradiction, RESULT, facts, [1])
        self.says(False, is_contradiction, RESULT, facts, [False])
        self.says(False, is_contradiction, RESULT, facts, [True])

    def test_wrong_arguments(self):
        faults = [(0, NO_NUMBERS, InvalidNumbers), (1, NO_FACTS, InvalidFacts)]
        self.refuses_in_order(contradiction_of, [RESULT, AGAINST], faults)
        self.refuses_in_order(is_contradiction, [RESULT, AGAINST, [0, 1]], faults)
        self.refuses(InvalidNumbers, is_contradiction, None, None, None)
        self.refuses(InvalidFacts, is_contradiction, RESULT, None, None)


class FamiliesTest(PromiseCase):
    def test_all_families_of_small_results(self):
        for result, families, facts in cases(67, 4, 8):
            expected = satisfying(families, facts)
            self.assertEqual(self.outcome(count_satisfying, result, facts), len(expected))
            for number, family in enumerate(expected):
                self.assertEqual(self.outcome(nth_satisfying, result, facts, number), family)
            for number in (len(expected), len(expected) + 1, -1, False, True, None):
                self.refuses(InvalidIndex, nth_satisfying, result, facts, number)

    def test_every_single_fact(self):
        for result in ([3, 1, 4, 2], [1, 2, 3], [3, 2, 1], [2, 1, 4, 3, 5]):
            families = families_by_search(result, 2)
            for fact in every_fact(result):
                expected = satisfying(families, [fact])
                found = [nth_satisfying(result, [fact], n) for n in range(count_satisfying(result, [fact]))]
                self.assertEqual(found, expected)

    def test_results_of_many_blocks(self):
        rng = random.Random(68)
        for size in (8, 9, 10):
            result = some_numbers(rng, size, "ascending")
            families = [nth_satisfying(result, [], number) for number in range(2 ** size)]
            self.assertEqual(
                [assignment_by_search(family, result) for family in families],
                [list(queues) for queues in itertools.product((0, 1), repeat=size)])
            for many in (1, 2, 4, 6, 9):
                facts = true_facts(rng, rng.choice(families), many)
                expected = satisfying(families, facts)
                found = [nth_satisfying(result, facts, n) for n in range(count_satisfying(result, facts))]
                self.assertEqual(found, expected)

    def test_facts_that_contradict_each_other(self):
        for facts in (AGAINST, [("apart", 3, 1)], [("in", 0, 0), ("in", 6, 1)], AGAINST * 20):
            self.assertEqual(self.outcome(count_satisfying, RESULT, facts), 0)
            for number in (0, 1, -1, True, False, None, BIG, "0", [0]):
                self.refuses(InvalidIndex, nth_satisfying, RESULT, facts, number)

    def test_edges(self):
        self.assertEqual(self.outcome(count_satisfying, [], []), 1)
        self.assertEqual(self.outcome(nth_satisfying, [], [], 0), [[], []])
        self.assertEqual(self.outcome(count_satisfying, [5, 4], []), 2)
        self.assertEqual(self.outcome(nth_satisfying, [5, 4], [], 1), [[], [5, 4]])
        self.assertEqual(self.outcome(count_satisfying, [5, 4], [("in", 4, 1)]), 1)
        self.assertEqual(self.outcome(nth_satisfying, [5, 4], [("in", 4, 1)], 0), [[], [5, 4]])
        self.assertEqual(self.outcome(count_satisfying, RESULT, [("same", 3, 1)]), 16)
        self.assertEqual(self.outcome(count_satisfying, RESULT, FACTS * 30), 4)

    def test_sixty_facts_about_150_numbers(self):
        rng = random.Random(69)
        for kind in ("ascending", "nearly", "random"):
            result = some_numbers(rng, 150, kind)
            family = nth_satisfying(result, [], 0)
            for number in result[1::2]:
                if number in records_by_definition(result):
                    family = moved(family, result, number)
            facts = true_facts(rng, family, 60)
            count = self.outcome(count_satisfying, result, facts)
            self.assertEqual(count, 2 ** free_groups(result, facts))
            self.check_ascending(rng, result, facts, count)

    def check_ascending(self, rng, result, facts, count):
        before = None
        numbers = {0, count - 1, count // 2, rng.randrange(count), rng.randrange(count)}
        for number in sorted(numbers | {number + 1 for number in numbers if number + 1 < count}):
            family = self.outcome(nth_satisfying, result, facts, number)
            self.says(True, satisfies, result, facts, family)
            assignment = assignment_by_search(family, result)
            if before is not None:
                self.assertLess(before, assignment)
            before = assignment
        for number in (count, -1, -count, count + 1):
            self.refuses(InvalidIndex, nth_satisfying, result, facts, number)

    def test_somewhat_beyond_the_limits(self):
        result = list(range(200))
        facts = [("same", one, one + 100) for one in range(100)]
        self.assertEqual(count_satisfying(result, facts), 2 ** 100)
        self.assertEqual(nth_satisfying(result, facts, 2 ** 100 - 1), [[], result])

    def test_changing_an_argument_later(self):
        self.later_change(nth_satisfying, list(RESULT), list(FACTS), 2)
        self.later_change(contradiction_of, list(RESULT), list(AGAINST))

    def test_wrong_arguments(self):
        faults = [(0, NO_NUMBERS, InvalidNumbers), (1, NO_FACTS, InvalidFacts)]
        self.refuses_in_order(count_satisfying, [RESULT, FACTS], faults)
        numbers = NO_INTEGERS + [-1, -4, 4, 5, 10 ** 29, BIG, [2], (2,), "2", [[2]]]
        self.refuses_in_order(nth_satisfying, [RESULT, FACTS, 2], faults + [(2, numbers, InvalidIndex)])


def moved(family, result, record):
    """The family of two queues with the block of this record in the other queue."""
    assignment = dict(zip(records_by_definition(result), assignment_by_search(family, result)))
    assignment[record] = 1 - assignment[record]
    queues = [[], []]
    for number in result:
        record = number if number in assignment else record_before(result, number)
        queues[assignment[record]].append(number)
    return queues


def record_before(result, number):
    """The record of the block of a number."""
    return max(result[:result.index(number) + 1])


def free_groups(result, facts):
    """How many groups of blocks the facts bind together without naming a queue."""
    groups = [{record} for record in records_by_definition(result)] + [{"queue"}]
    for word, one, other in facts:
        ends = {record_before(result, one), "queue" if word == "in" else record_before(result, other)}
        bound = [group for group in groups if group & ends]
        groups = [group for group in groups if not group & ends] + [set().union(*bound)]
    return len(groups) - 1


class FollowsTest(PromiseCase):
    def check(self, result, families, facts):
        left = satisfying(families, facts)
        for fact in every_fact(result):
            if left:
                expected = all(is_true(fact, family) for family in left)
                self.says(expected, follows, result, facts, fact)
            else:
                kept = self.refuses(Contradiction, follows, result, facts, fact)
                self.assertEqual(list(kept), ["indices"])
                self.assertTrue(is_contradiction_by_search(families, facts, kept["indices"]))
                self.says(True, is_contradiction, result, facts, kept["indices"])

    def test_facts_about_small_results(self):
        for result, families, facts in cases(70, 4, 3):
            self.check(result, families, facts)

    def test_facts_of_one_block_always_follow_or_never(self):
        for facts in ([], FACTS, FACTS * 30):
            self.says(True, follows, RESULT, facts, ("same", 3, 1))
            self.says(True, follows, RESULT, facts, ("same", 1, 3))
            self.says(False, follows, RESULT, facts, ("apart", 3, 1))

    def test_each_fact_follows_from_itself(self):
        for fact in every_fact(RESULT):
            if fact not in [("apart", one, other) for one, other in ((3, 1), (1, 3), (5, 2), (2, 5), (6, 0), (0, 6))]:
                self.says(True, follows, RESULT, [fact], fact)
                self.says(True, follows, RESULT, [fact] * 60, fact)

    def test_sixty_facts_about_large_results(self):
        rng = random.Random(71)
        result = list(range(150))
        chain = [("apart", one, one + 1) for one in range(60)]
        rng.shuffle(chain)
        for one, other in ((0, 60), (1, 60), (7, 30), (30, 7), (0, 1)):
            self.says((other - one) % 2 == 0, follows, result, chain, ("same", one, other))
            self.says((other - one) % 2 == 1, follows, result, chain, ("apart", one, other))
        for fact in (("same", 0, 61), ("apart", 0, 61), ("in", 0, 0), ("in", 0, 1), ("in", 149, 0)):
            self.says(False, follows, result, chain, fact)
        bound = chain[:59] + [("in", 0, 0)]
        for number in range(0, 150, 7):
            for queue in (0, 1):
                self.check_end(result, bound, number, queue)

    def check_end(self, result, facts, number, queue):
        fact = ("in", number, queue)
        expected = contradiction_of(result, facts + [("in", number, 1 - queue)]) is not None
        self.says(expected, follows, result, facts, fact)

    def test_the_indices_of_the_error_are_a_new_list_each_time(self):
        for _ in range(2):
            with self.assertRaises(Contradiction) as caught:
                follows(RESULT, AGAINST, ("in", 3, 0))
            self.assertEqual(caught.exception.indices, [0, 1])
            caught.exception.indices.append(7)

    def test_wrong_arguments(self):
        against = [AGAINST, [("apart", 3, 1)], AGAINST * 20, [("in", 0, 0), ("in", 6, 1)]]
        self.refuses_in_order(follows, [RESULT, FACTS, ("apart", 3, 4)], [
            (0, NO_NUMBERS, InvalidNumbers), (1, NO_FACTS, InvalidFacts), (2, NO_FACT + [FACTS, []], InvalidFacts),
            (1, against, Contradiction)])


class ReferenceTest(unittest.TestCase):
    def test_the_true_facts_are_true_and_of_all_forms(self):
        family = [[3, 1, 6, 0], [4, 5, 2]]
        facts = true_facts(random.Random(72), family, 60)
        self.assertEqual(satisfying([family], facts), [family])
        self.assertEqual({fact[0] for fact in facts}, {"same", "apart", "in"})

    def test_the_groups_of_the_example(self):
        self.assertEqual(free_groups(RESULT, []), 4)
        self.assertEqual(free_groups(RESULT, FACTS), 2)
        self.assertEqual(free_groups(RESULT, FACTS + [("in", 2, 0)]), 1)


if __name__ == "__main__":
    unittest.main()
