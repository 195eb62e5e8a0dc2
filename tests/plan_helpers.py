"""Plans for the tests, and what a plan means, found in other ways than in the package."""

import ast

from helpers import BIG, NEVER, Same, Thing, merged_by_heads, nested


def deep_plan(depth):
    """A plan whose lists are that deep, with one source in each but the last."""
    plan = [depth - 1, depth]
    for source in range(depth - 2, -1, -1):
        plan = [source, plan]
    return plan


FLAT = list(range(12))
PLANS = [
    [0], [[0]], [0, 1], [1, 0], [[0], 1], [0, [1]], [[0, 1]], [[1], [0]], [0, [1, 2]],
    [[2, 0], [1]], [[[0]], [[1], 2]], FLAT, FLAT[::-1], [[number] for number in FLAT],
    nested(8, 0), [0, nested(7, 1)], [nested(7, 1), nested(7, 0)], deep_plan(7), deep_plan(8),
]
NO_PLANS = NEVER + [
    [], [[]], [0, []], [[], 0], [0, [1, []]], [1], [[1]], [0, 2], [1, 2], [-1], [0, -1], [-1, 0, 1],
    [0, 0], [0, [0]], [[0], 0], [0, 1, 1], [[0, 1], [1]], [0, [1, [2, [0]]]], [0, [1, 3]],
    [0, 10 ** 29], [0, -(10 ** 29)], [0, True], [False, 1], [False], [[True], 0], [0, None], [0, "1"],
    [0, (1,)], [0, (1, 2)], (0, [1, 2]), [(0, 1)], ([0], 1), [0, {}], [0, {1: 1}], [0, [1, "2"]],
    nested(9, 0), [0, nested(8, 1)], [nested(8, 0), 1], nested(8, []), nested(7, []), deep_plan(9),
    nested(20, 0), [0, nested(19, 1)], list(range(1, 13)), list(range(11)) + [12],
]
# No texts at all, though some are written like one.
NO_TEXTS = [
    None, True, False, 0, 3, -1, BIG, b"3,1 _", b"(0)", b"", [], ["3"], [[3, 1], []], [0, [1, 2]], ["(0)"],
    ("3",), ("(0)",), (), {}, {"3": "1"}, {"(0)"}, set(), Thing(), Thing, Same(), len, ValueError("3"),
    nested(20, "3"), range(3),
]
NO_PLAN_TEXTS = [
    "", " ", "0", "(", ")", "()", "(())", ")(", "(0", "0)", "((0)", "(0))", "(0)(0)", "(0)(1)", "(0),(1)", "0,1",
    "(0,1", "0,1)", "(0,)", "(,0)", "(,)", "(0,,1)", "(0 1)", "(0, 1)", "(0 ,1)", "( 0)", "(0 )", " (0)", "(0) ",
    "(0)\n", "\n(0)", "(0,\t1)", "(0,1),", ",(0,1)", "(0)1", "1(0)", "0(1)", "(0(1))", "((0)1)", "((0)(1))",
    "((0),1),", "(00)", "(01,0)", "(0,01)", "(-0)", "(+0)", "(0,-1)", "(0,+1)", "(-1,0)", "(0,1.0)", "(0,1e0)",
    "[0]", "[0,1]", "(0,[1])", "{0}", "(a)", "(0,a)", "(_)", "(0,_)", "(0,1_0)", "_", "(1)", "(0,0)", "(0,2)",
    "(1,2)", "(0,(0))", "(0,(1,0))", "(0,())", "((),0)", "(0,(1,()))", "(0,(1,2)", "(0,1,2)(3)", "((0)",
    "(((((((((0)))))))))", "(0,((((((((1)))))))))", "(0,(1,(2,(3,(4,(5,(6,(7,(8)))))))))", "(0;1)", "(0:1)",
    "(\u0660)", "(0,\u0661)", "(0\u00a0,1)", "\uff080)", "(0,10000000000000000000000000)", "net (0)", "0,(1,2)",
    "3,1 _", "(0)_", "((0)),", "(0,1)(", "((0,1)", "(0,1))", ")0(", "))((", "(0,1)()", "()(0,1)", "((0,1)())",
]


def some_plan(rng, many, depth=8):
    """A plan for that many queues, with sources in a random order."""
    sources = list(range(many))
    rng.shuffle(sources)
    return grown(rng, sources, depth)


def grown(rng, sources, depth):
    """A plan of these sources whose lists are at most that deep."""
    parts = []
    left = list(sources)
    while left:
        size = rng.randint(1, len(left))
        taken, left = left[:size], left[size:]
        if depth > 1 and rng.random() < 0.7:
            parts.append(grown(rng, taken, depth - 1))
        else:
            parts.extend(taken)
    return parts


def depth_of(part):
    """How deep the lists of a part are."""
    if not isinstance(part, list):
        return 0
    return 1 + max([depth_of(inner) for inner in part], default=0)


def text_order(plan):
    """The lists of a plan in the order in which their brackets begin in its text."""
    begun = []
    text = repr(plan)
    for at, sign in enumerate(text):
        if sign == "[":
            end = at + 1
            while text[at:end].count("[") != text[at:end].count("]"):
                end += 1
            begun.append(ast.literal_eval(text[at:end]))
    return begun


def sources_in(part):
    """The integers of a part, in order."""
    if not isinstance(part, list):
        return [part]
    return [source for inner in part for source in sources_in(inner)]


def result_by_heads(part, family):
    """The result of a part of a plan, by merging its inputs step by step."""
    if not isinstance(part, list):
        return family[part]
    return merged_by_heads([result_by_heads(inner, family) for inner in part])
