"""What the tests share: promise checks around a call, values and references."""

import copy
import random
import unittest


def snapshot(value):
    """A picture of a value by which any change at any level shows."""
    if isinstance(value, (list, tuple)):
        return (id(value), [snapshot(part) for part in value])
    if isinstance(value, dict):
        return (id(value), [(snapshot(key), snapshot(value[key])) for key in value])
    return id(value)


def lists_in(value):
    """All lists in a value, itself included, one entry for each place."""
    found = [value] if isinstance(value, list) else []
    if isinstance(value, (list, tuple)):
        for part in value:
            found.extend(lists_in(part))
    return found


class PromiseCase(unittest.TestCase):
    """Checks at each call what point 3 and point 5 promise of every call."""

    def outcome(self, function, *arguments):
        """Return the result of a call, after checking what every call promises."""
        before = snapshot(arguments)
        result = function(*arguments)
        kept = copy.deepcopy(result)
        self.assertEqual(snapshot(arguments), before, "an argument changed")
        found = [id(part) for part in lists_in(result)]
        self.assertEqual(len(set(found)), len(found), "a list appears twice")
        for part in lists_in(result):
            part.append("changed")
        self.assertEqual(snapshot(arguments), before, "a result shares an argument's list")
        self.assertEqual(function(*arguments), kept, "a later result differs")
        self.assertEqual(function(*copy.deepcopy(arguments)), kept, "equal arguments, other result")
        return kept

    def later_change(self, function, *arguments):
        """Check that changing the arguments does not reach an earlier result."""
        result = function(*arguments)
        kept = copy.deepcopy(result)
        for part in lists_in(arguments):
            part.append("changed")
        self.assertEqual(result, kept)

    def refuses(self, error, function, *arguments):
        """Check that a call raises exactly this error and changes no argument."""
        before = snapshot(arguments)
        for _ in range(2):
            with self.assertRaises(ValueError) as caught:
                function(*arguments)
            self.assertIs(type(caught.exception), error)
        self.assertEqual(snapshot(arguments), before)

    def says(self, answer, function, *arguments):
        """Check that a call returns True or False itself."""
        self.assertIs(self.outcome(function, *arguments), answer, arguments)


def nested(depth, core):
    """The value in as many lists."""
    for _ in range(depth):
        core = [core]
    return core


def nested_tuples(depth, core):
    """The value in as many tuples."""
    for _ in range(depth):
        core = (core,)
    return core


class Thing:
    """An object of no kind that the document knows."""


# Neither a list of numbers nor a family nor a plan.
NEVER = [
    None, True, False, 0, 1, -1, 10 ** 29, "", "0", "3,1", "[0]", b"", b"0",
    (), (0,), (3, 1), ((0,),), ([0],), ([3, 1], []), {}, {0: 0}, {0: [0]}, {"a": 1},
    set(), {0}, frozenset([0]), range(2), Thing(), Thing, len, ValueError("x"),
    [None], [True], [False], [0, True], [0, False], [1, True], ["0"], [""], [b"0"],
    [()], [(0,)], [(0, 1)], [{}], [{0: 0}], [Thing()], [{0}], [range(1)],
    [0, None], [0, "1"], [0, (1,)], [0, [True]], [0, [None]], [0, []], [[], 0],
    [[None]], [[True]], [[False]], [["0"]], [[()]], [[(0,)]], [[{}]], [[Thing()]], [[[]]],
    [[0], (1,)], [(0,), [1]], [[0], None], [[0], True], [[0], "1"], [[0], {}], [[0], [True]],
    [0, 0], [[0], [0]], [[0, 0]], [3, 1, 3], [[3, 1], [2, 3]],
    nested(9, 0), nested(20, 0), nested(20, True), nested(19, []), nested(19, [None]),
    nested_tuples(20, 0), nested(10, nested_tuples(10, 0)), nested_tuples(10, nested(10, 0)),
    [0, nested(18, 1)], [nested(18, 0), 1],
]

SIZES = [0, 1, 2, 3, 5, 8, 13, 40, 150]
KINDS = ["random", "ascending", "descending", "nearly"]


def some_numbers(rng, size, kind):
    """A list of numbers of this size and order, some negative, some with 30 digits."""
    reach = rng.choice([size + 3, 10 ** 6, 10 ** 30 - 1])
    found = set()
    while len(found) < size:
        found.add(rng.randint(-reach, reach))
    numbers = sorted(found, reverse=kind == "descending")
    if kind == "random":
        rng.shuffle(numbers)
    if kind == "nearly":
        for _ in range(size // 5):
            at = rng.randrange(size - 1)
            numbers[at], numbers[at + 1] = numbers[at + 1], numbers[at]
    return numbers


def some_family(rng, size, kind, many):
    """A family of that many queues with that many numbers in all."""
    family = [[] for _ in range(many)]
    for number in some_numbers(rng, size, kind):
        rng.choice(family).append(number)
    return family


def some_families(seed):
    """Families of all sizes and orders, from one queue to 150."""
    rng = random.Random(seed)
    return [
        some_family(rng, size, kind, many)
        for size in SIZES
        for kind in KINDS
        for many in (1, 2, 3, 7, 12, 150)
    ]


def merged_by_heads(queues):
    """The result of queues, step by step as point 7 says."""
    left = [list(queue) for queue in queues]
    result = []
    while any(left):
        least = min(queue[0] for queue in left if queue)
        for queue in left:
            if queue and queue[0] == least:
                result.append(queue.pop(0))
    return result


def records_by_definition(numbers):
    """The records of a list, as the first sentence of point 8 says."""
    return [
        number for at, number in enumerate(numbers)
        if all(number > earlier for earlier in numbers[:at])
    ]
