"""leastheads.texts: families and plans written and read, and texts that are neither."""

import itertools
import json
import random
import re
import unittest

from helpers import BIG, NO_FAMILIES, PromiseCase, nested, some_families
from leastheads.errors import InvalidFamily, InvalidPlan, InvalidText
from leastheads.texts import read_family, read_plan, show_family, show_plan
from plan_helpers import FLAT, NO_PLAN_TEXTS, NO_PLANS, NO_TEXTS, PLANS, deep_plan, some_plan

NUMBER = "(0|-?[1-9][0-9]*)"
QUEUE = f"(_|{NUMBER}(,{NUMBER})*)"
FAMILY = re.compile(f"{QUEUE}( {QUEUE})*")
PLAN_SIGNS = re.compile("[0-9,()]*")
FAMILY_TEXTS = [
    ("_", [[]]), ("_ _", [[], []]), ("0", [[0]]), ("-1", [[-1]]), ("3,1 _ -2", [[3, 1], [], [-2]]),
    ("_ 0 _", [[], [0], []]), ("10,-10,100", [[10, -10, 100]]), ("0,1 -1", [[0, 1], [-1]]),
    (str(BIG), [[BIG]]), (f"{-BIG},0 {BIG}", [[-BIG, 0], [BIG]]), ("9 8 7 6", [[9], [8], [7], [6]]),
]
NO_FAMILY_TEXTS = [
    "", " ", "  ", "_ ", " _", "_  _", "__", "_,_", "_,1", "1,_", "1_", "_1", "1_000", "-_", "3,1 _ ", " 3,1",
    "3,,1", ",3", "3,", ",", ",,", "3, 1", "3 ,1", "3 , 1", "3,1,", "3,1  _", "3\t1", "3\n", "3,1\n", "\n", "\t",
    "00", "01", "-0", "-00", "-01", "+1", "+0", "--1", "1-", "-", "- 1", "1-2", "0-1", "-1-", "1.0", "1.", ".5",
    "1e3", "0x1", "0b1", "1L", "a", "one", "3a", "a3", "(3)", "[3]", "[[3,1],[]]", "(0,(1,2))", "'3'", '"3"',
    "3;1", "3:1", "3/1", "3*1", "3|1", "None", "True", "nan", "inf", "3,3", "3 3", "3,1 3", "0,0", "-1 -1",
    "1 2 3 1", "0,-0", "3,1 _ _ 3", "\u0663", "3,\u0661", "\u00b2", "3\u00a01", "3\u20031", "\uff13", "\u2212" "1",
]
PLAN_TEXTS = [
    ("(0)", [0]), ("((0))", [[0]]), ("(0,1)", [0, 1]), ("(1,0)", [1, 0]), ("(0,(1,2))", [0, [1, 2]]),
    ("((0,1),2)", [[0, 1], 2]), ("((2,0),(1))", [[2, 0], [1]]), ("((((((((0))))))))", nested(8, 0)),
    ("(0,1,2,3,4,5,6,7,8,9,10,11)", FLAT), ("(11,(10,9),(8,(7)),6,5,4,3,2,1,0)", None),
]


def is_family_text(text):
    """Whether a text is one of a family, by the words of point 24."""
    if not FAMILY.fullmatch(text):
        return False
    numbers = re.findall("-?[0-9]+", text)
    return len(set(numbers)) == len(numbers)


def plan_by_json(text):
    """The plan with this text, read as lists of JSON are read, or None."""
    if not PLAN_SIGNS.fullmatch(text) or "()" in text or depth_in(text) > 8:
        return None
    try:
        value = json.loads(text.replace("(", "[").replace(")", "]"))
    except ValueError:
        return None
    numbers = sorted(int(word) for word in re.findall("[0-9]+", text))
    return value if isinstance(value, list) and numbers == list(range(len(numbers))) else None


def depth_in(text):
    """How deep the parentheses of a text are nested."""
    depths = [text[:at].count("(") - text[:at].count(")") for at in range(len(text) + 1)]
    return max(depths)


class FamilyTest(PromiseCase):
    def test_texts_and_families(self):
        for text, family in FAMILY_TEXTS:
            self.assertEqual(self.outcome(show_family, family), text)
            self.assertEqual(self.outcome(read_family, text), family)

    def test_families_of_all_sizes(self):
        for family in some_families(301):
            text = show_family(family)
            self.assertTrue(is_family_text(text))
            self.assertEqual(text, " ".join(",".join(map(str, queue)) or "_" for queue in family))
            self.assertEqual(read_family(text), family)

    def test_what_every_call_promises(self):
        for family in some_families(302)[::9]:
            self.outcome(read_family, self.outcome(show_family, family))

    def test_no_texts_of_families(self):
        for text in NO_FAMILY_TEXTS + NO_TEXTS:
            self.refuses(InvalidText, read_family, text)

    def test_every_short_text(self):
        for size in range(6):
            for signs in itertools.product("01-_, ", repeat=size):
                self.check("".join(signs))

    def check(self, text):
        """Compare what a text is with the words of point 24; each has one family at most."""
        try:
            family = read_family(text)
        except InvalidText:
            self.assertFalse(is_family_text(text), text)
        else:
            self.assertTrue(is_family_text(text), text)
            self.assertEqual(show_family(family), text)

    def test_texts_with_a_few_signs_changed(self):
        rng = random.Random(303)
        for family in some_families(304)[::2]:
            text = show_family(family)
            for _ in range(5):
                at = rng.randint(0, len(text))
                sign = rng.choice("0123456789-_, +.x()\n")
                self.check(text[:at] + sign + text[at:])
                self.check(text[:at] + text[at + 1:])
                self.check(text[:at] + sign + text[at + 1:])

    def test_texts_of_4000_signs(self):
        empty = " ".join(["_"] * 2000) + " _"
        self.assertEqual(len(empty), 4001)
        self.assertEqual(read_family(empty[:3999]), [[] for _ in range(2000)])
        self.assertEqual(show_family(read_family(empty)), empty)
        self.refuses(InvalidText, read_family, empty[:4000])
        row = ",".join(map(str, range(1000, 1800)))
        self.assertEqual(len(row), 3999)
        self.assertEqual(read_family(row), [list(range(1000, 1800))])
        self.assertEqual(show_family([list(range(1000, 1800))]), row)
        self.refuses(InvalidText, read_family, row + ",")
        self.refuses(InvalidText, read_family, row[:-4] + "1000")
        self.refuses(InvalidText, read_family, "," * 4000)
        self.refuses(InvalidText, read_family, " " * 4000)
        self.refuses(InvalidText, read_family, "_" * 4000)

    def test_long_numbers(self):
        for digits in (30, 31, 900, 3999):
            for family in ([[10 ** digits - 1]], [[-10 ** (digits - 1)], [0]]):
                text = show_family(family)
                self.assertEqual(text, " ".join(str(queue[0]) for queue in family))
                self.assertEqual(self.outcome(read_family, text), family)
        self.refuses(InvalidText, read_family, "0" * 4000)
        self.refuses(InvalidText, read_family, "-" * 4000)

    def test_numbers_that_python_does_not_write(self):
        nines = "9" * 4500
        self.assertEqual(read_family(nines + " -" + nines), [[10 ** 4500 - 1], [1 - 10 ** 4500]])
        self.assertEqual(show_family([[10 ** 4500 - 1], [1 - 10 ** 4500]]), nines + " -" + nines)

    def test_each_call_returns_new_lists(self):
        one = read_family("3,1 _")
        one[0].append(5)
        one.append(one[1])
        self.assertEqual(read_family("3,1 _"), [[3, 1], []])

    def test_values_that_are_not_written(self):
        for value in NO_FAMILIES:
            self.refuses(InvalidFamily, show_family, value)


class PlanTest(PromiseCase):
    def test_texts_and_plans(self):
        for text, plan in PLAN_TEXTS:
            read = self.outcome(read_plan, text)
            self.assertEqual(self.outcome(show_plan, read), text)
            if plan is not None:
                self.assertEqual(read, plan)
                self.assertEqual(show_plan(plan), text)

    def test_plans_of_all_kinds(self):
        rng = random.Random(311)
        for plan in PLANS + [some_plan(rng, rng.randint(1, 12)) for _ in range(200)]:
            text = self.outcome(show_plan, plan)
            self.assertEqual(text, repr(plan).replace("[", "(").replace("]", ")").replace(" ", ""))
            self.assertEqual(self.outcome(read_plan, text), plan)
            self.assertEqual(plan_by_json(text), plan)

    def test_no_texts_of_plans(self):
        for text in NO_PLAN_TEXTS + NO_TEXTS:
            self.refuses(InvalidText, read_plan, text)

    def test_every_short_text(self):
        for size in range(8):
            for signs in itertools.product("01(),", repeat=size):
                self.check("".join(signs))

    def check(self, text):
        """Compare what a text is with what JSON reads; each has one plan at most."""
        try:
            plan = read_plan(text)
        except InvalidText:
            self.assertIsNone(plan_by_json(text), text)
        else:
            self.assertEqual(plan_by_json(text), plan, text)
            self.assertEqual(show_plan(plan), text)

    def test_texts_with_a_few_signs_changed(self):
        rng = random.Random(312)
        for plan in PLANS + [some_plan(rng, rng.randint(1, 12)) for _ in range(100)]:
            text = show_plan(plan)
            for _ in range(10):
                at = rng.randint(0, len(text))
                sign = rng.choice("0123456789(),")
                self.check(text[:at] + sign + text[at:])
                self.check(text[:at] + text[at + 1:])
                self.check(text[:at] + sign + text[at + 1:])
                other = rng.choice(" -_+.[]{}\n\tx")
                self.refuses(InvalidText, read_plan, text[:at] + other + text[at:])

    def test_the_depth_ends_at_eight(self):
        for depth in range(1, 12):
            text = "(" * depth + "0" + ")" * depth
            if depth <= 8:
                self.assertEqual(read_plan(text), nested(depth, 0))
                self.assertEqual(show_plan(nested(depth, 0)), text)
                self.assertEqual(read_plan(show_plan(deep_plan(depth))), deep_plan(depth))
            else:
                self.refuses(InvalidText, read_plan, text)
                self.refuses(InvalidPlan, show_plan, nested(depth, 0))

    def test_texts_of_4000_signs(self):
        for text in ("(" * 4000, ")" * 4000, "(" * 2000 + ")" * 2000, "(" * 1999 + "0" + ")" * 1999, "()" * 2000,
                     ")(" * 2000, "," * 4000, "0" * 4000, "9" * 4000, "(" + "1" * 3998 + ")", "(0," * 1333 + ")",
                     "(" * 1999 + "0,1" + ")" * 1998, " " * 4000, "(0)" * 1333, "(0,1" + "0" * 3990 + ")"):
            self.refuses(InvalidText, read_plan, text)
        self.refuses(InvalidText, read_plan, "(0," + "1" * 4500 + ")")
        text = "(" + ",".join(map(str, range(1000))) + ")"
        self.assertEqual(read_plan(text), list(range(1000)))
        self.assertEqual(show_plan(list(range(1000))), text)

    def test_each_call_returns_new_lists(self):
        one = read_plan("(0,(1,2))")
        one[1].append(5)
        one.append(one[1])
        self.assertEqual(read_plan("(0,(1,2))"), [0, [1, 2]])

    def test_values_that_are_not_written(self):
        for value in NO_PLANS:
            self.refuses(InvalidPlan, show_plan, value)


class ReferenceTest(unittest.TestCase):
    def test_the_reference_knows_the_texts(self):
        for text, _ in FAMILY_TEXTS:
            self.assertTrue(is_family_text(text))
        for text in NO_FAMILY_TEXTS:
            self.assertFalse(is_family_text(text), text)
        for text, _ in PLAN_TEXTS:
            self.assertIsNotNone(plan_by_json(text))
        for text in NO_PLAN_TEXTS:
            self.assertIsNone(plan_by_json(text), text)


if __name__ == "__main__":
    unittest.main()
