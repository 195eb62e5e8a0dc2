"""leastheads.opens: certain beginnings, exhausted queues, continuations, witnesses."""

import itertools
import random
import unittest

from helpers import BIG, NEVER, NO_FAMILIES, PromiseCase, Same, Thing
from helpers import merged_by_heads, some_families, some_numbers
from leastheads.errors import InvalidFamily, InvalidOpen
from leastheads.opens import (
    certain_beginning, exhausted_queues, is_continuation, is_witness, witness_of,
)
from leastheads.places import number_at, place_of
from leastheads.queues import merged

FAMILY = [[3, 1], [], [4, 6]]
# Not ascending lists of indices of the three queues above, though True is equal to one.
NO_OPEN = NEVER + [
    [3], [-1], [0, 3], [-1, 0], [0, 1, 2, 3], [1, 0], [2, 1, 0], [0, 2, 1], [1, 1], [0, 1, 1, 2],
    [10 ** 29], [0, BIG], [-BIG], [True, 2], [0, 1, True], (0, 1), [[0, 1]], {0: 0, 1: 1}, "01",
]
FAULTS = [(0, NO_FAMILIES, InvalidFamily), (1, NO_OPEN, InvalidOpen)]


def by_steps(family, open_queues):
    """The certain beginning and the exhausted queues, step by step as point 20 says."""
    left = {index: list(queue) for index, queue in enumerate(family)}
    passed = []
    while all(left[index] for index in open_queues) and any(left.values()):
        least = min(left, key=lambda index: left[index][0] if left[index] else 10 ** 60)
        passed.append(left[least].pop(0))
    return passed, [index for index in open_queues if not left[index]]


def continues_by_definition(family, open_queues, value):
    """Whether a family is a continuation, as point 19 says."""
    if len(value) != len(family):
        return False
    for index, queue in enumerate(family):
        if index not in open_queues and value[index] != queue:
            return False
        if [value[index][at] for at in range(min(len(queue), len(value[index])))] != queue:
            return False
    return True


def differ_behind(beginning, one, other):
    """Whether results begin with the list and do not agree directly behind it (point 21)."""
    size = len(beginning)
    if one[:size] != beginning or other[:size] != beginning:
        return False
    if len(one) == size or len(other) == size:
        return len(one) != len(other)
    return one[size] != other[size]


def common_beginning(lists):
    """The longest list with which all lists begin."""
    size = min(len(one) for one in lists)
    while any(one[:size] != lists[0][:size] for one in lists):
        size -= 1
    return lists[0][:size]


def continuations(family, open_queues, numbers, most):
    """All continuations with at most that many more numbers, all of them from a list."""
    found = [[list(queue) for queue in family]]
    newest = found
    for _ in range(most):
        longer = []
        for one in newest:
            used = {number for queue in one for number in queue}
            for index, number in itertools.product(open_queues, numbers):
                if number not in used:
                    longer.append([
                        queue + [number] if at == index else list(queue) for at, queue in enumerate(one)])
        newest = longer
        found = found + longer
    return found


def subsets(many):
    """All ascending lists of indices below a number."""
    return [
        list(chosen) for size in range(many + 1) for chosen in itertools.combinations(range(many), size)]


def small_families(size, most):
    """All families of so many numbers, with gaps between them, in up to that many queues."""
    found = []
    for many in range(1, most + 1):
        for numbers in itertools.permutations(range(0, 2 * size, 2)):
            for queues in itertools.product(range(many), repeat=size):
                family = [[] for _ in range(many)]
                for number, queue in zip(numbers, queues):
                    family[queue].append(number)
                if family not in found:
                    found.append(family)
    return found


def some_open(rng, many):
    """Some lists of queues: none, all, one, about half of them, all but one."""
    one = rng.randrange(many)
    half = [index for index in range(many) if rng.random() < 0.5]
    return [[], list(range(many)), [one], half, [index for index in range(many) if index != one]]


def some_open_families(seed):
    """Open families of all sizes and orders."""
    rng = random.Random(seed)
    for family in some_families(seed):
        for open_queues in some_open(rng, len(family)):
            yield family, open_queues


def grown_at_random(rng, family, open_queues, most):
    """A continuation with up to that many more numbers, small, great and between."""
    value = [list(queue) for queue in family]
    used = {number for queue in family for number in queue}
    ends = sorted(used) + [0]
    for _ in range(rng.randint(0, most) if open_queues else 0):
        number = rng.choice(ends) + rng.choice([-2, -1, 1, 2, 10 ** 31, -10 ** 31])
        if number not in used:
            used.add(number)
            value[rng.choice(open_queues)].append(number)
    return value


class CertainTest(PromiseCase):
    def check(self, family, open_queues):
        beginning, exhausted = by_steps(family, open_queues)
        self.assertEqual(self.outcome(certain_beginning, family, open_queues), beginning)
        self.assertEqual(self.outcome(exhausted_queues, family, open_queues), exhausted)

    def test_open_families_of_all_sizes_and_orders(self):
        for family, open_queues in some_open_families(101):
            beginning, exhausted = by_steps(family, open_queues)
            self.assertEqual(certain_beginning(family, open_queues), beginning)
            self.assertEqual(exhausted_queues(family, open_queues), exhausted)

    def test_what_every_call_promises(self):
        for family, open_queues in list(some_open_families(102))[::7]:
            self.check(family, open_queues)

    def test_it_is_what_all_continuations_begin_with(self):
        for size, most in ((0, 3), (1, 3), (2, 3), (3, 2)):
            numbers = range(-1, 2 * size + 2, 2)
            for family in small_families(size, most):
                for open_queues in subsets(len(family)):
                    results = [
                        merged_by_heads(one) for one in continuations(family, open_queues, numbers, 2)]
                    self.assertEqual(certain_beginning(family, open_queues), common_beginning(results))

    def test_continuations_at_random_begin_with_it(self):
        rng = random.Random(103)
        for family, open_queues in some_open_families(104):
            beginning = certain_beginning(family, open_queues)
            for most in (3, 20):
                result = merged_by_heads(grown_at_random(rng, family, open_queues, most))
                self.assertEqual(result[:len(beginning)], beginning)

    def test_no_queue_is_open(self):
        for family in some_families(105):
            self.assertEqual(certain_beginning(family, []), merged_by_heads(family))
            self.assertEqual(exhausted_queues(family, []), [])

    def test_an_open_queue_is_empty_from_the_beginning(self):
        for family in some_families(106):
            family = family + [[]]
            self.assertEqual(certain_beginning(family, [len(family) - 1]), [])
            every = list(range(len(family)))
            self.assertEqual(certain_beginning(family, every), [])
            empty = [index for index, queue in enumerate(family) if not queue]
            self.assertEqual(exhausted_queues(family, every), empty)

    def test_edges(self):
        cases = [
            ([[]], [], [], []),
            ([[]], [0], [], [0]),
            ([[], []], [0, 1], [], [0, 1]),
            ([[], []], [1], [], [1]),
            ([[5]], [0], [5], [0]),
            ([[5], []], [0], [5], [0]),
            ([[5], [], []], [0, 2], [], [2]),
            ([[5], []], [], [5], []),
            ([[3, 1], [4, 6]], [0, 1], [3, 1], [0]),
            ([[4, 6], [3, 1]], [0, 1], [3, 1], [1]),
            ([[3, 1], [4, 6]], [1], [3, 1, 4, 6], [1]),
            ([[1], [2], [3]], [2], [1, 2, 3], [2]),
            ([[1], [2], [3]], [1], [1, 2], [1]),
            ([[1], [2], [3]], [0, 1, 2], [1], [0]),
            ([[2, 1], [3, 0], [4]], [1, 2], [2, 1, 3, 0], [1]),
            ([[BIG, -BIG], [0]], [0], [0, BIG, -BIG], [0]),
            ([[BIG, -BIG], [0]], [1], [0], [1]),
        ]
        for family, open_queues, beginning, exhausted in cases:
            self.check(family, open_queues)
            self.assertEqual(certain_beginning(family, open_queues), beginning)
            self.assertEqual(exhausted_queues(family, open_queues), exhausted)

    def test_many_queues(self):
        singles = [[number] for number in range(149, -1, -1)]
        every = list(range(150))
        self.assertEqual(self.outcome(certain_beginning, singles, every), [0])
        self.assertEqual(self.outcome(exhausted_queues, singles, every), [149])
        self.assertEqual(self.outcome(certain_beginning, singles, [0]), every)
        self.assertEqual(self.outcome(exhausted_queues, [[] for _ in every], every), every)

    def test_somewhat_beyond_the_limits(self):
        family = [list(range(at, 400, 200)) for at in range(200)]
        self.assertEqual(certain_beginning(family, []), list(range(400)))
        self.assertEqual(certain_beginning(family, [5]), list(range(206)))
        self.assertEqual(certain_beginning([[10 ** 40, -10 ** 40], [5]], [0]), [5, 10 ** 40, -10 ** 40])

    def test_changing_an_argument_later(self):
        self.later_change(certain_beginning, [[3, 1], [4]], [0])
        self.later_change(exhausted_queues, [[3, 1], [4]], [0])

    def test_wrong_arguments(self):
        for function in (certain_beginning, exhausted_queues, witness_of):
            self.refuses_in_order(function, [FAMILY, [0, 2]], FAULTS)

    def test_open_queues_of_a_larger_family(self):
        for many in (1, 2, 3, 150):
            family = [[index] for index in range(many)]
            for function in (certain_beginning, exhausted_queues, witness_of):
                self.outcome(function, family, list(range(many)))
                self.refuses(InvalidOpen, function, family, list(range(many + 1)))
                self.refuses(InvalidOpen, function, family, [many])


class ContinuationTest(PromiseCase):
    def test_continuations_of_small_families(self):
        for family in small_families(2, 2):
            for open_queues in subsets(len(family)):
                for value in continuations(family, open_queues, range(-1, 5, 2), 2):
                    self.says(True, is_continuation, family, open_queues, value)

    def test_all_small_families_against_the_definition(self):
        families = [
            family for size in range(4) for family in small_families(size, 3) if len(family) > 1]
        for family in small_families(2, 3)[::3]:
            for open_queues in subsets(len(family)):
                for value in families:
                    expected = continues_by_definition(family, open_queues, value)
                    self.assertIs(is_continuation(family, open_queues, value), expected)

    def test_continuations_of_all_sizes(self):
        rng = random.Random(111)
        for family, open_queues in some_open_families(112):
            value = grown_at_random(rng, family, open_queues, 20)
            self.assertIs(is_continuation(family, open_queues, value), True)
            self.assertIs(is_continuation(family, open_queues, family), True)
            self.assertIs(is_continuation(family, open_queues, value + [[]]), False)
            self.assertIs(is_continuation(family, open_queues, value[:-1]), False)

    def test_small_changes_that_end_it(self):
        rng = random.Random(113)
        for family, open_queues in some_open_families(114):
            for index, queue in enumerate(family):
                value = grown_at_random(rng, family, open_queues, 3)
                if index not in open_queues:
                    value[index] = queue + [5 * 10 ** 31]
                    self.assertIs(is_continuation(family, open_queues, value), False)
                if len(queue) > 0:
                    at = rng.randrange(len(queue))
                    value[index] = queue[:at] + queue[at + 1:]
                    self.assertIs(is_continuation(family, open_queues, value), False)
                    value[index] = queue[:at] + [5 * 10 ** 31] + queue[at:]
                    self.assertIs(is_continuation(family, open_queues, value), False)
                if index > 20:
                    break

    def test_edges(self):
        self.says(True, is_continuation, [[]], [], [[]])
        self.says(True, is_continuation, [[]], [0], [[]])
        self.says(True, is_continuation, [[]], [0], [[2, 1]])
        self.says(False, is_continuation, [[]], [], [[2]])
        self.says(False, is_continuation, [[]], [0], [[], []])
        self.says(True, is_continuation, FAMILY, [1], [[3, 1], [8], [4, 6]])
        self.says(False, is_continuation, FAMILY, [1], [[8], [3, 1], [4, 6]])
        self.says(False, is_continuation, FAMILY, [0], [[8, 3, 1], [], [4, 6]])
        self.says(False, is_continuation, FAMILY, [0], [[3, 8, 1], [], [4, 6]])
        self.says(False, is_continuation, FAMILY, [0, 1, 2], [[3, 1, 4], [], [4, 6]])
        self.says(False, is_continuation, FAMILY, [0, 1, 2], [[3, 1, 8, 8], [], [4, 6]])
        self.says(False, is_continuation, [[1, 0]], [0], [[True, False]])
        self.says(False, is_continuation, [[1]], [0], [[1, True]])
        self.says(False, is_continuation, [[1]], [0], [[1, Same()]])

    def test_151_queues(self):
        family = [[index] for index in range(150)]
        self.says(False, is_continuation, family, [0], family + [[]])
        self.says(True, is_continuation, family, [0], [[0, 150]] + family[1:])

    def test_values_of_other_kinds(self):
        for value in NO_FAMILIES:
            self.says(False, is_continuation, FAMILY, [0, 1, 2], value)
            self.says(False, is_continuation, [[]], [0], value)

    def test_wrong_arguments(self):
        for value in (FAMILY, [], None):
            self.refuses_in_order(
                lambda family, queues: is_continuation(family, queues, value), [FAMILY, [0]], FAULTS)


class WitnessTest(PromiseCase):
    def test_pairs_of_small_families_against_the_definition(self):
        for family in small_families(2, 2):
            for open_queues in subsets(len(family)):
                beginning = by_steps(family, open_queues)[0]
                values = continuations(family, open_queues, (-1, 1, 5), 2)[:25] + [[[7]], [[0], [2]], [[2, 0]]]
                for one, other in itertools.product(values, repeat=2):
                    expected = (
                        continues_by_definition(family, open_queues, one)
                        and continues_by_definition(family, open_queues, other)
                        and differ_behind(beginning, merged_by_heads(one), merged_by_heads(other))
                    )
                    self.assertIs(is_witness(family, open_queues, (one, other)), expected)

    def test_there_is_a_witness_if_and_only_if_some_queue_is_open(self):
        for family, open_queues in some_open_families(121):
            found = witness_of(family, open_queues)
            if not open_queues:
                self.assertIsNone(found)
                continue
            self.assertIs(type(found), tuple)
            one, other = found
            self.assertTrue(continues_by_definition(family, open_queues, one))
            self.assertTrue(continues_by_definition(family, open_queues, other))
            beginning = by_steps(family, open_queues)[0]
            self.assertTrue(differ_behind(beginning, merged_by_heads(one), merged_by_heads(other)))
            self.assertIs(is_witness(family, open_queues, found), True)

    def test_what_every_call_promises(self):
        for family, open_queues in list(some_open_families(122))[::9]:
            found = self.outcome(witness_of, family, open_queues)
            self.says(found is not None, is_witness, family, open_queues, found)
            self.later_change(witness_of, [list(queue) for queue in family], list(open_queues))

    def test_without_an_open_queue_nothing_is_a_witness(self):
        for family in some_families(123)[::5]:
            self.says(False, is_witness, family, [], (family, family))
            self.says(False, is_witness, family, [], (family, family[::-1]))

    def test_edges(self):
        self.assertIsNone(self.outcome(witness_of, [[]], []))
        for family, open_queues in (([[]], [0]), ([[], []], [1]), ([[BIG, -BIG], [0]], [0]), ([[-BIG]], [0])):
            found = self.outcome(witness_of, family, open_queues)
            self.says(True, is_witness, family, open_queues, found)
        self.says(True, is_witness, [[]], [0], ([[]], [[5]]))
        self.says(True, is_witness, [[]], [0], ([[5]], [[]]))
        self.says(True, is_witness, [[]], [0], ([[5]], [[6]]))
        self.says(False, is_witness, [[]], [0], ([[]], [[]]))
        self.says(False, is_witness, [[]], [0], ([[5]], [[5]]))
        self.says(False, is_witness, [[]], [0], ([[5, 6]], [[5]]))
        self.says(True, is_witness, [[3]], [0], ([[3]], [[3, 4]]))
        self.says(False, is_witness, [[3]], [0], ([[3, 5]], [[3, 5, 4]]))
        self.says(True, is_witness, [[3], [4]], [0], ([[3], [4]], [[3, 1], [4]]))
        self.says(False, is_witness, [[3], [4]], [0], ([[3, 8], [4]], [[3, 9], [4]]))
        self.says(False, is_witness, [[3], [4]], [0], ([[3], [4]], [[3, 1], [4, 5]]))

    def test_results_that_differ_too_early_or_too_late(self):
        family = [[3, 1], [4, 6]]
        present = [[3, 1], [4, 6]]
        self.says(False, is_witness, family, [0], (present, [[3, 1, 5], [4, 6]]))
        self.says(True, is_witness, family, [0], (present, [[3, 1, 0], [4, 6]]))
        self.says(True, is_witness, family, [0], ([[3, 1, 0], [4, 6]], [[3, 1, 2], [4, 6]]))
        self.says(False, is_witness, family, [0], ([[3, 1, 0, 2], [4, 6]], [[3, 1, 0, 5], [4, 6]]))
        self.says(False, is_witness, family, [0], ([[3, 0], [4, 6]], present))

    def test_151_queues(self):
        family = [[index] for index in range(150)]
        found = witness_of(family, [7])
        self.says(True, is_witness, family, [7], found)
        self.says(False, is_witness, family, [7], (found[0] + [[]], found[1]))
        self.says(False, is_witness, family, [7], (found[0], found[1] + [[]]))

    def test_values_of_other_kinds(self):
        one, other = witness_of(FAMILY, [0])
        self.says(True, is_witness, FAMILY, [0], (one, other))
        wrong = NO_FAMILIES + [
            [one, other], (one,), (one, other, other), (one, one), (other, other), ((one, other),),
            (tuple(one), other), ([tuple(queue) for queue in one], other), {0: one, 1: other}, (one, None),
            (None, other), (one, 5), (one, Thing()), (one, Same()), (one, "3,1 _ 4,6"), ((), ()),
        ]
        for value in wrong:
            self.says(False, is_witness, FAMILY, [0], value)
            self.says(False, is_witness, FAMILY, [0], (one, value))
            self.says(False, is_witness, FAMILY, [0], (value, other))

    def test_wrong_arguments(self):
        for value in (([[3, 1, 0], [], [4, 6]], FAMILY), (), None):
            self.refuses_in_order(
                lambda family, queues: is_witness(family, queues, value), [FAMILY, [0]], FAULTS)


class GrowthTest(PromiseCase):
    """Families that grow number by number, and queues that are closed one by one."""

    def grow(self, rng, family, steps):
        """Put numbers behind queues that are open and close queues; yield each open family."""
        family = [list(queue) for queue in family]
        unclosed = list(range(len(family)))
        unused = some_numbers(rng, steps, "random")
        used = {number for queue in family for number in queue}
        for number in unused:
            if unclosed and rng.random() < 0.1:
                unclosed.remove(rng.choice(unclosed))
            elif unclosed and number not in used:
                family[rng.choice(unclosed)].append(number)
            yield family, list(unclosed)
        while unclosed:
            unclosed.pop()
            yield family, list(unclosed)

    def test_what_is_certain_stays_certain(self):
        rng = random.Random(131)
        for many in (1, 2, 3, 5, 12, 40):
            for _ in range(6):
                begun = [[] for _ in range(many)]
                last = []
                for family, unclosed in self.grow(rng, begun, 60):
                    beginning = certain_beginning(family, unclosed)
                    self.assertEqual(beginning[:len(last)], last)
                    self.assertEqual(beginning, by_steps(family, unclosed)[0])
                    last = beginning
                self.assertEqual(last, merged_by_heads(family))

    def test_every_later_family_is_a_continuation(self):
        rng = random.Random(132)
        for many in (1, 3, 12):
            begun = [[] for _ in range(many)]
            family, unclosed = begun, list(range(many))
            for later, still in self.grow(rng, begun, 60):
                self.assertIs(is_continuation(family, unclosed, later), True)
                family, unclosed = [list(queue) for queue in later], still

    def test_places_of_what_is_certain(self):
        rng = random.Random(133)
        for family, open_queues in list(some_open_families(134))[::4]:
            beginning = certain_beginning(family, open_queues)
            later = grown_at_random(rng, family, open_queues, 12)
            for place, number in enumerate(beginning):
                self.assertEqual(place_of(later, number), place)
                self.assertEqual(number_at(later, place), number)

    def test_nothing_more_is_certain_at_any_time(self):
        rng = random.Random(135)
        for many in (1, 2, 5, 12):
            for family, unclosed in self.grow(rng, [[] for _ in range(many)], 60):
                found = witness_of(family, unclosed)
                self.assertEqual(found is None, unclosed == [])
                if found is not None:
                    beginning = by_steps(family, unclosed)[0]
                    results = [merged(one) for one in found]
                    self.assertTrue(differ_behind(beginning, *results))

    def test_an_exhausted_queue_that_gets_a_number_or_is_closed(self):
        for family, open_queues in list(some_open_families(136))[::3]:
            exhausted = exhausted_queues(family, open_queues)
            beginning = certain_beginning(family, open_queues)
            if len(exhausted) != 1:
                continue
            later = [list(queue) for queue in family]
            later[exhausted[0]].append(-10 ** 31)
            expected = beginning + [-10 ** 31]
            self.assertEqual(certain_beginning(later, open_queues)[:len(expected)], expected)
            closed = [index for index in open_queues if index != exhausted[0]]
            longer = certain_beginning(family, closed)
            left = sum(map(len, family)) > len(beginning)
            self.assertEqual(len(longer) > len(beginning), left)

    def test_a_queue_that_is_not_exhausted_adds_nothing(self):
        for family, open_queues in list(some_open_families(137))[::3]:
            beginning = certain_beginning(family, open_queues)
            exhausted = exhausted_queues(family, open_queues)
            for index in open_queues[:20]:
                if index not in exhausted:
                    later = [list(queue) for queue in family]
                    later[index].append(-10 ** 31)
                    self.assertEqual(certain_beginning(later, open_queues), beginning)
                    closed = [other for other in open_queues if other != index]
                    self.assertEqual(certain_beginning(family, closed), beginning)


if __name__ == "__main__":
    unittest.main()
