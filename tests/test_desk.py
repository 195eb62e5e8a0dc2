"""leastheads.desk: commands, what they return and raise, desks and nets side by side."""

import itertools
import random
import re
import unittest

from helpers import BIG, PromiseCase, merged_by_heads, nested, some_families, some_numbers
from leastheads import errors
from leastheads.desk import Desk
from leastheads.nets import Net
from leastheads.opens import certain_beginning
from leastheads.texts import read_plan, show_plan
from net_helpers import Model, changing_call, count_mergers
from plan_helpers import (
    FLAT, NO_PLAN_TEXTS, NO_TEXTS, PLANS, deep_plan, result_by_heads, some_plan, sources_in, text_order,
)

INDEX = "(0|[1-9][0-9]{0,8})"
NUMBER = "(0|-?[1-9][0-9]{0,29})"
FORMS = [re.compile(form) for form in [
    "net ([0-9,()]+)", f"put {INDEX} {NUMBER}", f"close {INDEX}", f"arrive [sm]{INDEX}", "settle", "result",
    "transit", f"waits {INDEX}", f"held {INDEX}", "certain", "finished", "undo",
]]
WITHOUT_ARGUMENT = ["settle", "result", "transit", "certain", "finished", "undo"]
GOOD_ROWS = WITHOUT_ARGUMENT + [
    "net (0)", "net (0,(1,2))", "net ((((((((0))))))))", "put 0 3", "put 2 -1", "put 0 0", f"put 1 {BIG}",
    f"put 1 {-BIG}", "put 999999999 5", "close 0", "close 2", "close 999999999", "arrive s0", "arrive m0",
    "arrive m1", "arrive s999999999", "arrive m999999999", "waits 0", "waits 999999999", "held 1",
    "held 999999999", "put 10 10", "close 10", "waits 10", "arrive s10",
]
BAD_ROWS = NO_TEXTS + ["net " + text for text in NO_PLAN_TEXTS] + [
    "", " ", "  ", "_", "none", "ok", "Net (0)", "NET (0)", "PUT 0 3", "Settle", "settled", "settl", "undo_last",
    "put_number 0 3", "close_source 0", "help", "quit", "nets (0)", "0", "3,1 _", "(0)", "s0", "m1",
    "net", "net ", "net  (0)", " net (0)", "net (0) ", "net (0) (0)", "net (0) 0", "net\t(0)", "net (0)\n",
    "net(0)", "net (0)(1)", "net (1)", "net (0,0)", "net [0]", "net 0", "net _", "net (0,(1,0))", "net (0, 1)",
    "put", "put ", "put 0", "put 0 ", "put 3", "put  0 3", "put 0  3", "put 0 3 ", " put 0 3", "put 0 3 4",
    "put 0 3,1", "put 0 _", "put _ 3", "put 0,1 3", "put -1 3", "put -0 3", "put +0 3", "put 00 3", "put 01 3",
    "put 0 03", "put 0 00", "put 0 -0", "put 0 +3", "put 0 --3", "put 0 -", "put 0 3-", "put 0 3.0", "put 0 1e3",
    "put 0 1_0", "put 1_0 1", "put s0 3", "put a 3", "put 0 a", "put 1000000000 3", "put 0000000000 3",
    f"put 0 {BIG + 1}", f"put 0 {-BIG - 1}", "put 0 0" + str(BIG), "put 0 " + "1" * 4000, "put " + "1" * 4000 + " 1",
    "put 0\t3", "put 0 3\n", "put\n0 3", "put 0 \u0663", "put \u0660 3", "put 0 \u00b2", "put 0 True", "put True 0",
    "close", "close ", "close  0", "close 0 ", "close 0 1", "close -1", "close 00", "close s0", "close _", "close a",
    "close 1000000000", "close 0123456789", "close +0", "close 0,1", "close None",
    "arrive", "arrive ", "arrive  s0", "arrive s0 ", "arrive s0 s1", "arrive 0", "arrive s", "arrive m", "arrive s 0",
    "arrive s00", "arrive s01", "arrive s-1", "arrive s+1", "arrive S0", "arrive M1", "arrive x0", "arrive ss0",
    "arrive 0s", "arrive s0m1", "arrive sm0", "arrive s_", "arrive s1000000000", "arrive m1000000000", "arrive source0",
    "arrive s0,s1", "arrive s0=1", "arrive (0)", "arrive s\u0660", "arrive ms",
    "waits", "waits ", "waits  0", "waits 0 ", "waits 0 1", "waits -1", "waits 00", "waits m0", "waits 1000000000",
    "waits _", "waits none", "held", "held ", "held  0", "held 0 ", "held 0 0", "held -1", "held 00", "held m0",
    "held 1000000000", "held _", "held a",
] + [
    form.format(word) for word in WITHOUT_ARGUMENT
    for form in ("{} ", " {}", "{} 0", "{}  ", "{}\n", "{} _", "{}s", "{},", "{0} {0}", "\t{}", "{} (0)")
] + [word.upper() for word in WITHOUT_ARGUMENT]
# Rows whose first word takes no other words; a desk without a net knows them all the same.
QUESTIONS = ["result", "transit", "certain", "finished"]


def queue_text(numbers):
    """Numbers as point 24 writes a queue."""
    return ",".join(map(str, numbers)) or "_"


def lane_text(lane):
    """A lane as point 25 writes it."""
    return {"source": "s", "merger": "m"}[lane[0]] + str(lane[1])


def is_command(row):
    """Whether a text is a command, by the words of point 25."""
    if not any(form.fullmatch(row) for form in FORMS):
        return False
    if not row.startswith("net "):
        return True
    try:
        read_plan(row[4:])
    except errors.InvalidText:
        return False
    return True


class DeskModel:
    """A desk that leads a net or a model of one as the table of point 25 says."""

    def __init__(self, kind):
        self.kind = kind
        self.net = None

    def execute(self, row):
        if not is_command(row):
            raise errors.InvalidCommand("")
        word, *rest = row.split(" ")
        if word == "net":
            self.net = self.kind(read_plan(rest[0]))
            return "ok"
        if self.net is None:
            raise errors.NoNet("")
        return getattr(self, word)(*rest)

    def put(self, source, number):
        self.net.put_number(int(source), int(number))
        return "ok"

    def close(self, source):
        self.net.close_source(int(source))
        return "ok"

    def arrive(self, lane):
        kind = "source" if lane[0] == "s" else "merger"
        return queue_text(self.net.arrive_from((kind, int(lane[1:]))))

    def settle(self):
        return queue_text(self.net.settle_all())

    def result(self):
        return queue_text(self.net.result_so_far())

    def transit(self):
        lanes = self.net.on_the_way()
        return " ".join(f"{lane_text(lane)}={len(numbers) + is_over}" for lane, numbers, is_over in lanes) or "none"

    def waits(self, merger):
        return " ".join(map(lane_text, self.net.waits_for(int(merger)))) or "none"

    def held(self, merger):
        return queue_text(self.net.held_at(int(merger)))

    def certain(self):
        return queue_text(certain_beginning(*self.net.family_so_far()))

    def finished(self):
        return "yes" if self.net.is_finished() else "no"

    def undo(self):
        self.net.undo_last()
        return "ok"


def row_of(call):
    """The row for a call of a net that raises no error."""
    name, *arguments = call
    if name == "put_number":
        return f"put {arguments[0]} {arguments[1]}"
    if name == "close_source":
        return f"close {arguments[0]}"
    if name == "arrive_from":
        return f"arrive {lane_text(arguments[0])}"
    return "settle" if name == "settle_all" else "undo"


def said(desk, row):
    """What a row returns, or the class of the error that it raises."""
    try:
        return desk.execute(row)
    except errors.HeadsError as error:
        return type(error)


def all_said(desk, mergers):
    """All that a desk with so many mergers tells of its net."""
    rows = QUESTIONS + [f"{word} {merger}" for word in ("waits", "held") for merger in range(mergers)]
    return [said(desk, row) for row in rows]


def told_desk(rows):
    """A desk that has got these rows."""
    desk = Desk()
    for row in rows:
        desk.execute(row)
    return desk


class DeskCase(PromiseCase):
    def answers(self, desk, pairs):
        """Check the answers to rows, one behind the other."""
        for row, answer in pairs:
            found = desk.execute(row)
            self.assertIs(type(found), str)
            self.assertEqual(found, answer, row)


class TableTest(DeskCase):
    def test_a_tree_of_two_mergers(self):
        self.answers(Desk(), [
            ("net (0,(1,2))", "ok"), ("transit", "none"), ("result", "_"), ("certain", "_"), ("finished", "no"),
            ("waits 0", "s0 m1"), ("waits 1", "s1 s2"), ("held 0", "_"), ("held 1", "_"), ("settle", "_"),
            ("put 0 3", "ok"), ("put 0 -1", "ok"), ("put 1 4", "ok"), ("put 2 2", "ok"), ("close 0", "ok"),
            ("transit", "s0=3 s1=1 s2=1"), ("certain", "2"), ("arrive s1", "_"), ("held 1", "4"),
            ("waits 1", "s2"), ("arrive s2", "_"), ("transit", "s0=3 m1=1"), ("arrive m1", "_"), ("held 0", "2"),
            ("waits 0", "s0"), ("arrive s0", "2"), ("held 0", "3"), ("waits 0", "m1"), ("arrive s0", "_"),
            ("held 0", "-1,3"), ("close 2", "ok"), ("transit", "s0=1 s2=1"), ("arrive s2", "_"),
            ("transit", "s0=1 m1=1"), ("settle", "3,-1,4"), ("result", "2,3,-1,4"), ("certain", "2,3,-1,4"),
            ("finished", "no"), ("waits 0", "m1"), ("close 1", "ok"), ("arrive s1", "_"), ("transit", "m1=1"),
            ("finished", "no"), ("arrive m1", "_"), ("finished", "yes"), ("transit", "none"), ("waits 0", "none"),
            ("waits 1", "none"), ("undo", "ok"), ("finished", "no"), ("transit", "m1=1"), ("undo", "ok"),
            ("undo", "ok"), ("waits 1", "s1"), ("undo", "ok"), ("result", "2"), ("held 0", "-1,3"),
        ])

    def test_one_source(self):
        self.answers(Desk(), [
            ("net (0)", "ok"), ("put 0 0", "ok"), ("put 0 -5", "ok"), ("arrive s0", "0"), ("settle", "-5"),
            ("waits 0", "s0"), ("close 0", "ok"), ("transit", "s0=1"), ("settle", "_"), ("finished", "yes"),
        ])

    def test_lanes_with_two_digits(self):
        desk = Desk()
        self.answers(desk, [("net (0,1,2,3,4,5,6,7,8,9,10,11)", "ok")] + [(f"close {at}", "ok") for at in FLAT])
        self.answers(desk, [
            ("transit", " ".join(f"s{at}=1" for at in FLAT)), ("waits 0", " ".join(f"s{at}" for at in FLAT)),
            ("arrive s11", "_"), ("arrive s10", "_"), ("waits 0", " ".join(f"s{at}" for at in FLAT[:10])),
            ("transit", " ".join(f"s{at}=1" for at in FLAT[:10])),
        ])
        text = "((11,((((((10)))))),(9)),((8)),7,6,5,4,3,2,1,0)"
        self.answers(desk, [
            (f"net {text}", "ok"), ("close 10", "ok"), ("arrive s10", "_"), ("transit", "m7=1"), ("waits 9", "m10"),
            ("put 8 4", "ok"), ("arrive s8", "_"), ("transit", "m7=1 m10=1"),
            ("waits 0", "m1 m9 s7 s6 s5 s4 s3 s2 s1 s0"),
        ])

    def test_numbers_of_30_digits_and_texts_of_many_numbers(self):
        desk = told_desk(["net (0,1)"])
        numbers = [BIG - at for at in range(75)] + [-BIG + at for at in range(75)]
        for at, number in enumerate(numbers):
            self.assertEqual(desk.execute(f"put {at % 2} {number}"), "ok")
        self.answers(desk, [("close 0", "ok"), ("close 1", "ok")])
        family = [numbers[0::2], numbers[1::2]]
        self.answers(desk, [("settle", queue_text(merged_by_heads(family))), ("finished", "yes")])

    def test_a_new_net_replaces_the_old_one(self):
        desk = told_desk(["net (0)", "put 0 3", "settle", "close 0"])
        self.answers(desk, [
            ("net (0,1)", "ok"), ("result", "_"), ("transit", "none"), ("certain", "_"), ("waits 0", "s0 s1"),
        ])
        self.assertIs(said(desk, "undo"), errors.NothingToUndo)
        self.answers(desk, [("put 0 3", "ok"), ("net (0,1)", "ok"), ("put 1 3", "ok"), ("undo", "ok")])
        self.assertIs(said(desk, "undo"), errors.NothingToUndo)

    def test_two_desks_have_nothing_in_common(self):
        one, other = told_desk(["net (0)", "put 0 3"]), Desk()
        self.assertIs(said(other, "result"), errors.NoNet)
        other.execute("net (0)")
        self.answers(other, [("transit", "none"), ("put 0 3", "ok"), ("settle", "3")])
        self.answers(one, [("transit", "s0=1"), ("result", "_")])


class SideBySideTest(DeskCase):
    """Desks and nets do the same."""

    def plans(self, rng):
        """Plans of all kinds."""
        return PLANS + [some_plan(rng, rng.randint(1, 12)) for _ in range(20)]

    def test_rows_and_calls_that_change_the_net(self):
        rng = random.Random(401)
        for plan in self.plans(rng):
            mergers = count_mergers(plan)
            desk, other = Desk(), DeskModel(Net)
            for one in (desk, other):
                one.execute(f"net {show_plan(plan)}")
            unused = some_numbers(rng, 60, "random")
            for _ in range(120):
                call = changing_call(rng, other.net, unused)
                self.assertEqual(desk.execute(row_of(call)), other.execute(row_of(call)))
                self.assertEqual(all_said(desk, mergers), all_said(other, mergers))
            for _ in range(120):
                self.assertEqual(desk.execute("undo"), "ok")
                other.net.undo_last()
                self.assertEqual(all_said(desk, mergers), all_said(other, mergers))
            self.assertIs(said(desk, "undo"), errors.NothingToUndo)

    def test_rows_at_random_against_the_model(self):
        rng = random.Random(402)
        for plan in self.plans(rng):
            many, mergers = len(sources_in(plan)), count_mergers(plan)
            desk, other = Desk(), DeskModel(Model)
            for at in range(150):
                row = f"net {show_plan(plan)}" if at in (2, 80) else self.some_row(rng, many, mergers)
                self.assertEqual(said(desk, row), said(other, row), row)
                self.assertEqual(all_said(desk, mergers), all_said(other, mergers))

    def some_row(self, rng, many, mergers):
        """A row; often a command, sometimes one that raises an error."""
        source, merger, number = rng.randint(0, many), rng.randint(0, mergers), rng.randint(-20, 20)
        rows = [
            f"put {source} {number}", f"put {source} {number}", f"arrive s{source}", f"arrive m{merger}",
            f"arrive s{source}", f"arrive m{merger}", f"close {source}" if rng.random() < 0.3 else "transit",
            "settle" if rng.random() < 0.3 else "result", f"waits {merger}", f"held {merger}", "certain",
            "finished", "undo" if rng.random() < 0.5 else "transit", rng.choice(GOOD_ROWS[:6]),
        ]
        row = rng.choice(rows)
        if rng.random() < 0.1:
            at = rng.randint(0, len(row))
            return row[:at] + rng.choice("0 -_s") + row[at:]
        return row

    def test_every_short_row_of_commands(self):
        words = ["put 0 1", "put 1 0", "close 0", "close 1", "arrive s0", "arrive s1", "arrive m1", "settle", "undo"]
        for plan in ("(0,1)", "(0,(1))"):
            for rows in itertools.product(words, repeat=4):
                desk, other = Desk(), DeskModel(Net)
                answers = [[said(one, row) for row in (f"net {plan}", *rows)] for one in (desk, other)]
                self.assertEqual(answers[0], answers[1], rows)
                self.assertEqual(all_said(desk, plan.count("(")), all_said(other, plan.count("(")), rows)


class WholeFamilyTest(DeskCase):
    """Desks over whole families."""

    def test_families_that_are_put_and_settled(self):
        rng = random.Random(411)
        for family in some_families(412):
            if len(family) > 12:
                continue
            plan = some_plan(rng, len(family))
            desk = told_desk([f"net {show_plan(plan)}"])
            rows = [f"put {index} {number}" for index, queue in enumerate(family) for number in queue]
            for row in rows:
                self.assertEqual(desk.execute(row), "ok")
            some = [index for index in range(len(family)) if rng.random() < 0.5]
            for index in some:
                desk.execute(f"close {index}")
            unclosed = [index for index in range(len(family)) if index not in some]
            certain = queue_text(certain_beginning(family, unclosed))
            self.assertEqual(desk.execute("certain"), certain)
            self.assertEqual(desk.execute("settle"), certain)
            self.assertEqual(desk.execute("result"), certain)
            for index in unclosed:
                desk.execute(f"close {index}")
            desk.execute("settle")
            whole = queue_text(merged_by_heads(family))
            self.answers(desk, [("result", whole), ("certain", whole), ("finished", "yes"), ("transit", "none")])
            for merger in range(count_mergers(plan)):
                self.answers(desk, [(f"held {merger}", "_"), (f"waits {merger}", "none")])

    def test_the_result_is_a_beginning_of_the_certain_beginning(self):
        rng = random.Random(413)
        for plan in PLANS + [deep_plan(8)]:
            desk, net = told_desk([f"net {show_plan(plan)}"]), Net(plan)
            unused = some_numbers(rng, 60, "random")
            for _ in range(150):
                call = changing_call(rng, net, unused)
                getattr(net, call[0])(*call[1:])
                desk.execute(row_of(call))
                result, certain = desk.execute("result"), desk.execute("certain")
                if result != "_":
                    self.assertTrue((certain + ",").startswith(result + ","))
                if desk.execute("transit") == "none":
                    self.assertEqual(result, certain)

    def test_lanes_of_inner_mergers(self):
        """All numbers come through each merger's lane, as its own result."""
        rng = random.Random(414)
        for plan in [[[0, 1], [2, [3]]], deep_plan(8), nested(8, 0), some_plan(rng, 12)]:
            family = [[] for _ in sources_in(plan)]
            for number in some_numbers(rng, 60, "random"):
                rng.choice(family).append(number)
            rows = [f"put {index} {number}" for index, queue in enumerate(family) for number in queue]
            desk = told_desk([f"net {show_plan(plan)}"] + rows + [f"close {index}" for index in range(len(family))])
            for index, queue in enumerate(family):
                for _ in range(len(queue) + 1):
                    desk.execute(f"arrive s{index}")
            for merger in range(count_mergers(plan) - 1, 0, -1):
                numbers = result_by_heads(text_order(plan)[merger], family)
                self.assertIn(f"m{merger}={len(numbers) + 1}", desk.execute("transit").split(" "))
                for _ in range(len(numbers) + 1):
                    desk.execute(f"arrive m{merger}")
            self.answers(desk, [("result", queue_text(merged_by_heads(family))), ("finished", "yes")])


class ErrorTest(DeskCase):
    def refused(self, desk, mergers, error, row):
        """Check that a row raises exactly this error and changes nothing."""
        before = all_said(desk, mergers)
        self.assertIs(said(desk, row), error, row)
        self.assertEqual(all_said(desk, mergers), before)

    def begun(self):
        """A desk with a net in which something has happened."""
        return told_desk([
            "net (0,(1,2))", "put 0 3", "put 1 4", "put 1 8", "put 2 2", "close 1", "close 2", "arrive s2",
            "arrive s2", "arrive s1",
        ])

    def test_rows_that_are_no_commands(self):
        for desk in (Desk(), self.begun()):
            for row in BAD_ROWS:
                self.refused(desk, 2, errors.InvalidCommand, row)

    def test_the_rows_of_the_tests_are_commands_or_not(self):
        for row in GOOD_ROWS:
            self.assertTrue(is_command(row), row)
            self.assertIsNot(said(Desk(), row), errors.InvalidCommand, row)
            self.assertIsNot(said(self.begun(), row), errors.InvalidCommand, row)
        for row in BAD_ROWS:
            self.assertFalse(isinstance(row, str) and is_command(row), row)

    def test_rows_with_a_sign_changed(self):
        for row in GOOD_ROWS:
            for at in range(len(row) + 1):
                for sign in "0 -_,(sma+\n":
                    for behind in (sign + row[at:], row[at + 1:], sign + row[at + 1:]):
                        changed = row[:at] + behind
                        expected = not is_command(changed)
                        self.assertIs(said(self.desk(), changed) is errors.InvalidCommand, expected, changed)

    def desk(self):
        """A desk with the smallest net."""
        return told_desk(["net (0)"])

    def test_without_a_net(self):
        desk = Desk()
        for row in GOOD_ROWS:
            if not row.startswith("net "):
                self.assertIs(said(desk, row), errors.NoNet, row)
        self.assertEqual(desk.execute("net (0)"), "ok")
        self.assertEqual(desk.execute("result"), "_")

    def test_a_row_that_is_no_command_leaves_no_net(self):
        desk = Desk()
        for text in NO_PLAN_TEXTS:
            self.assertIs(said(desk, f"net {text}"), errors.InvalidCommand)
            self.assertIs(said(desk, "settle"), errors.NoNet)

    def test_what_the_net_raises(self):
        desk = self.begun()
        rows = [
            ("put 3 5", errors.UnknownSource), ("put 3 3", errors.UnknownSource),
            ("put 999999999 5", errors.UnknownSource),
            ("put 1 5", errors.ClosedSource), ("put 2 5", errors.ClosedSource), ("put 1 3", errors.ClosedSource),
            ("put 0 3", errors.UsedNumber), ("put 0 4", errors.UsedNumber), ("put 0 2", errors.UsedNumber),
            ("close 3", errors.UnknownSource), ("close 1", errors.ClosedSource), ("close 2", errors.ClosedSource),
            ("arrive s3", errors.UnknownLane), ("arrive m0", errors.UnknownLane), ("arrive m2", errors.UnknownLane),
            ("arrive s999999999", errors.UnknownLane), ("arrive m999999999", errors.UnknownLane),
            ("arrive s2", errors.NothingOnTheWay), ("waits 2", errors.UnknownMerger), ("held 2", errors.UnknownMerger),
            ("waits 999999999", errors.UnknownMerger), ("held 999999999", errors.UnknownMerger),
        ]
        for row, error in rows:
            self.refused(desk, 2, error, row)
        for _ in range(9):
            self.assertEqual(desk.execute("undo"), "ok")
        for _ in range(3):
            self.refused(desk, 2, errors.NothingToUndo, "undo")

    def test_indices_of_9_and_10_digits(self):
        desk = self.begun()
        for row, error in (
            ("put {} 5", errors.UnknownSource), ("close {}", errors.UnknownSource), ("arrive s{}", errors.UnknownLane),
            ("arrive m{}", errors.UnknownLane), ("waits {}", errors.UnknownMerger), ("held {}", errors.UnknownMerger),
        ):
            self.refused(desk, 2, error, row.format("123456789"))
            self.refused(desk, 2, errors.InvalidCommand, row.format("1234567890"))
            self.refused(desk, 2, errors.InvalidCommand, row.format("0000000000"))
            self.refused(desk, 2, errors.InvalidCommand, row.format("1" * 3900))

    def test_numbers_of_30_and_31_digits(self):
        desk = self.begun()
        for number in (BIG, -BIG, 10 ** 29, -10 ** 29):
            self.assertEqual(desk.execute(f"put 0 {number}"), "ok")
        for number in (BIG + 1, -BIG - 1, 10 ** 40, 10 ** 3900):
            self.refused(desk, 2, errors.InvalidCommand, f"put 0 {number}")
        self.refused(desk, 2, errors.InvalidCommand, f"put 7 {BIG + 1}")

    def test_rows_of_4000_signs(self):
        for desk in (Desk(), self.begun()):
            for row in ("a" * 4000, " " * 4000, "net " + "(" * 3996, "net " + "(" * 1998 + ")" * 1998,
                        "put 0 " + "9" * 3994, "settle" + " " * 3994, "settle " * 571, "put 0 " + "0" * 3994,
                        "arrive s" + "0" * 3992):
                self.refused(desk, 2, errors.InvalidCommand, row)

    def test_300_commands_all_of_them_undone(self):
        rng = random.Random(421)
        for plan in (FLAT, deep_plan(8), some_plan(rng, 12)):
            desk, net = told_desk([f"net {show_plan(plan)}"]), Net(plan)
            mergers = count_mergers(plan)
            unused = some_numbers(rng, 150, "random")
            views = []
            for _ in range(300):
                views.append(all_said(desk, mergers))
                call = changing_call(rng, net, unused)
                getattr(net, call[0])(*call[1:])
                desk.execute(row_of(call))
            self.assertEqual(desk.execute("result"), queue_text(net.result_so_far()))
            while views:
                self.assertEqual(desk.execute("undo"), "ok")
                self.assertEqual(all_said(desk, mergers), views.pop())
            self.refused(desk, mergers, errors.NothingToUndo, "undo")


if __name__ == "__main__":
    unittest.main()
