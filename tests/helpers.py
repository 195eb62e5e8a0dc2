"""What the tests share: promise checks around a call, values and references."""

import copy
import itertools
import random
import unittest


def snapshot(value):
    """A picture of a value by which any change at any level shows."""
    if isinstance(value, (list, tuple)):
        return (id(value), [snapshot(part) for part in value])
    if isinstance(value, dict):
        return (id(value), [(snapshot(key), snapshot(value[key])) for key in value])
    return id(value)


def lists_in(value):
    """All lists in a value, itself included, one entry for each place."""
    found = [value] if isinstance(value, list) else []
    if isinstance(value, (list, tuple)):
        for part in value:
            found.extend(lists_in(part))
    return found


class PromiseCase(unittest.TestCase):
    """Checks at each call what point 3 and point 5 promise of every call."""

    def outcome(self, function, *arguments):
        """Return the result of a call, after checking what every call promises."""
        before = snapshot(arguments)
        result = function(*arguments)
        kept = copy.deepcopy(result)
        self.assertEqual(snapshot(arguments), before, "an argument changed")
        found = [id(part) for part in lists_in(result)]
        self.assertEqual(len(set(found)), len(found), "a list appears twice")
        for part in lists_in(result):
            part.append("changed")
        self.assertEqual(snapshot(arguments), before, "a result shares an argument's list")
        self.assertEqual(function(*arguments), kept, "a later result differs")
        self.assertEqual(function(*copy.deepcopy(arguments)), kept, "equal arguments, other result")
        return kept

    def later_change(self, function, *arguments):
        """Check that changing the arguments does not reach an earlier result."""
        result = function(*arguments)
        kept = copy.deepcopy(result)
        for part in lists_in(arguments):
            part.append("changed")
        self.assertEqual(result, kept)

    def refuses(self, error, function, *arguments):
        """Check that a call raises exactly this error, also again, and changes no argument.

        Return what the error keeps.
        """
        before = snapshot(arguments)
        kept = []
        for _ in range(2):
            with self.assertRaises(ValueError) as caught:
                function(*arguments)
            self.assertIs(type(caught.exception), error, (function, arguments))
            kept.append(copy.deepcopy(vars(caught.exception)))
            for part in vars(caught.exception).values():
                for found in lists_in(part):
                    found.append("changed")
        self.assertEqual(snapshot(arguments), before, "an argument changed")
        self.assertEqual(kept[0], kept[1], "a later error differs")
        return kept[0]

    def refuses_in_order(self, function, good, faults):
        """Check the errors of a call with wrong arguments, one, two and more at once.

        `good` are arguments of a call without an error. Each fault is the place of an
        argument, wrong values for it, and their error; they stand in the order of the
        interface.
        """
        self.outcome(function, *good)
        for place, values, error in faults:
            for value in values:
                self.refuses(error, function, *with_wrong(good, [place], [value]))
        for size in range(2, len(faults) + 1):
            for chosen in itertools.combinations(faults, size):
                places = [place for place, _, _ in chosen]
                if len(set(places)) == size:
                    for turn in range(12):
                        wrong = [values[turn * 11 % len(values)] for _, values, _ in chosen]
                        self.refuses(chosen[0][2], function, *with_wrong(good, places, wrong))

    def says(self, answer, function, *arguments):
        """Check that a call returns True or False itself."""
        self.assertIs(self.outcome(function, *arguments), answer, arguments)


def with_wrong(good, places, values):
    """The good arguments with these values in these places."""
    arguments = list(good)
    for place, value in zip(places, values):
        arguments[place] = value
    return arguments


def nested(depth, core):
    """The value in as many lists."""
    for _ in range(depth):
        core = [core]
    return core


def nested_tuples(depth, core):
    """The value in as many tuples."""
    for _ in range(depth):
        core = (core,)
    return core


class Thing:
    """An object of no kind that the document knows."""


class Same:
    """An object that is equal to everything."""

    def __eq__(self, other):
        return True

    def __hash__(self):
        return 1


# Neither a list of numbers nor a family nor a plan.
NEVER = [
    None, True, False, 0, 1, -1, 10 ** 29, "", "0", "3,1", "[0]", b"", b"0",
    (), (0,), (3, 1), ((0,),), ([0],), ([3, 1], []), {}, {0: 0}, {0: [0]}, {"a": 1},
    set(), {0}, frozenset([0]), range(2), Thing(), Thing, Same(), len, ValueError("x"),
    [None], [True], [False], [0, True], [0, False], [1, True], ["0"], [""], [b"0"],
    [()], [(0,)], [(0, 1)], [{}], [{0: 0}], [Thing()], [Same()], [0, Same()], [[Same()]], [{0}], [range(1)],
    [0, None], [0, "1"], [0, (1,)], [0, [True]], [0, [None]], [0, []], [[], 0],
    [[None]], [[True]], [[False]], [["0"]], [[()]], [[(0,)]], [[{}]], [[Thing()]], [[[]]],
    [[0], (1,)], [(0,), [1]], [[0], None], [[0], True], [[0], "1"], [[0], {}], [[0], [True]],
    [0, 0], [[0], [0]], [[0, 0]], [3, 1, 3], [[3, 1], [2, 3]],
    nested(9, 0), nested(20, 0), nested(20, True), nested(19, []), nested(19, [None]),
    nested_tuples(20, 0), nested(10, nested_tuples(10, 0)), nested_tuples(10, nested(10, 0)),
    [0, nested(18, 1)], [nested(18, 0), 1],
]

BIG = 10 ** 30 - 1

NO_NUMBERS = NEVER + [
    [[]], [[0]], [[3, 1], []], [[0, 1], [2]], [0, [1]], [3, 3], [0, 1, 0], [BIG, 0, BIG],
    [True, 2], [2, False], list(range(150)) + [0], (3, 1), nested(2, 0),
]
NO_FAMILIES = NEVER + [
    [], [0], [3, 1], [[0], 1], [0, [1]], [[3], [3]], [[3, 3]], [[], [1, 2, 1]], [[1], [], [2, 1]],
    [[True]], [[1], [True]], [[0], [False]], [[[1]]], [[1], [[2]]], [[3, 1], ()], ([3, 1],),
    [[number] for number in range(150)] + [[7]], nested(3, 0), nested(8, 0),
]
# Also what Python takes for an integer: True and False.
NO_INTEGERS = [value for value in NEVER if isinstance(value, bool) or not isinstance(value, int)]

SIZES = [0, 1, 2, 3, 5, 8, 13, 40, 150]
KINDS = ["random", "ascending", "descending", "nearly"]


def some_numbers(rng, size, kind):
    """A list of numbers of this size and order, some negative, some with 30 digits."""
    reach = rng.choice([size + 3, 10 ** 6, 10 ** 30 - 1])
    found = set()
    while len(found) < size:
        found.add(rng.randint(-reach, reach))
    numbers = sorted(found, reverse=kind == "descending")
    if kind == "random":
        rng.shuffle(numbers)
    if kind == "nearly":
        for _ in range(size // 5):
            at = rng.randrange(size - 1)
            numbers[at], numbers[at + 1] = numbers[at + 1], numbers[at]
    return numbers


def some_family(rng, size, kind, many):
    """A family of that many queues with that many numbers in all."""
    family = [[] for _ in range(many)]
    for number in some_numbers(rng, size, kind):
        rng.choice(family).append(number)
    return family


def some_families(seed):
    """Families of all sizes and orders, from one queue to 150."""
    rng = random.Random(seed)
    return [
        some_family(rng, size, kind, many)
        for size in SIZES
        for kind in KINDS
        for many in (1, 2, 3, 7, 12, 150)
    ]


def merged_by_heads(queues):
    """The result of queues, step by step as point 7 says."""
    left = [list(queue) for queue in queues]
    result = []
    while any(left):
        least = min(queue[0] for queue in left if queue)
        for queue in left:
            if queue and queue[0] == least:
                result.append(queue.pop(0))
    return result


def records_by_definition(numbers):
    """The records of a list, as the first sentence of point 8 says."""
    return [
        number for at, number in enumerate(numbers)
        if all(number > earlier for earlier in numbers[:at])
    ]


def blocks_by_search(numbers):
    """The blocks of a list, from its records."""
    begins = [numbers.index(record) for record in records_by_definition(numbers)] + [len(numbers)]
    return [numbers[begin:end] for begin, end in zip(begins, begins[1:])]


def families_by_search(result, many):
    """All families of that many queues with the result, by ascending assignments.

    They are found as point 7 says, among all families of these numbers.
    """
    found = []
    for order in itertools.permutations(result):
        for cuts in itertools.combinations_with_replacement(range(len(order) + 1), many - 1):
            ends = [0, *cuts, len(order)]
            family = [list(order[begin:end]) for begin, end in zip(ends, ends[1:])]
            if merged_by_heads(family) == list(result):
                found.append(family)
    return sorted(found, key=lambda family: assignment_by_search(family, result))


def assignment_by_search(family, result):
    """The assignment of a family: for each record of its result the index of its queue."""
    return [
        [record in queue for queue in family].index(True)
        for record in records_by_definition(result)
    ]


def small_results(most):
    """Lists of numbers in every order, up to that many numbers."""
    return [
        list(numbers)
        for size in range(most + 1)
        for numbers in itertools.permutations(range(-1, size - 1))
    ]
