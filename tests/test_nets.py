"""leastheads.nets: nets led by calls, undone calls, errors, results and certain beginnings."""

import copy
import itertools
import random
import unittest

from helpers import BIG, NEVER, NO_INTEGERS, PromiseCase, Same, lists_in, merged_by_heads, nested
from helpers import snapshot, some_numbers
from leastheads import errors
from leastheads.nets import Net
from leastheads.opens import certain_beginning, exhausted_queues
from leastheads.plans import inputs_of
from net_helpers import Model, changing_call, count_mergers, some_call, told, view_of
from plan_helpers import FLAT, NO_PLANS, PLANS, deep_plan, some_plan, sources_in, text_order

TREE = [0, [1, 2]]
# No lanes of a net with the plan above, though some are equal to one or written like one.
NO_LANES = NEVER + [
    ("merger", 0), ("merger", 2), ("merger", -1), ("source", 3), ("source", -1), ("source", 10 ** 29),
    ("source", BIG), ("merger", BIG), ("source", True), ("source", False), ("merger", True),
    ["source", 0], ["merger", 1], ("source",), ("merger",), ("source", 0, 0), ("source", 0, None),
    ("sources", 0), ("Source", 0), ("SOURCE", 0), ("s", 0), ("m", 1), "s0", "m1", "source", "source 0",
    (b"source", 0), (0, "source"), ("source", "0"), ("merger", "1"), ("source", None), ("source", [0]),
    ("source", (0,)), ("source", Same()), (Same(), 0), (Same(), Same()), ("", 0), ("source", {}),
    (["source"], 0), ({}, 0), ("source", {0}), (("source", 0),), [("source", 0)], ("source ", 0),
]
NO_SOURCES = NO_INTEGERS + [-1, 3, 10, 10 ** 29, BIG, -BIG, ("source", 0), [0], "0"]
NO_MERGERS = NO_INTEGERS + [-1, 2, 3, 10 ** 29, BIG, -BIG, ("merger", 0), [0], "0"]


class NetCase(PromiseCase):
    """Makes the same calls on a net and on the model, and compares all that they tell."""

    def pair(self, plan):
        """A net and a model with this plan."""
        return Net(plan), Model(plan)

    def same_view(self, net, model, mergers):
        """Check that both tell the same, and return it."""
        view = view_of(net, mergers)
        self.assertEqual(view, view_of(model, mergers))
        self.assertIs(type(net.is_finished()), bool)
        return view

    def same_answer(self, net, model, call):
        """Check that the call returns or raises the same from both, and return it."""
        answer = told(net, call)
        self.assertEqual(answer, told(model, call), call)
        return answer

    def refused(self, net, mergers, error, call):
        """Check that a call raises exactly this error and changes neither net nor argument."""
        before = view_of(net, mergers)
        picture = snapshot(call)
        self.assertIs(told(net, call), error, call)
        self.assertEqual(snapshot(call), picture)
        self.assertEqual(view_of(net, mergers), before)


class HandTest(unittest.TestCase):
    """Small nets, told step by step as point 22 does."""

    def test_a_tree_of_two_mergers(self):
        net = Net(TREE)
        self.assertEqual(net.waits_for(0), [("source", 0), ("merger", 1)])
        self.assertEqual(net.waits_for(1), [("source", 1), ("source", 2)])
        self.assertIsNone(net.put_number(1, 4))
        self.assertIsNone(net.put_number(2, 5))
        self.assertIsNone(net.put_number(0, 9))
        self.assertEqual(net.on_the_way(), [
            (("source", 0), [9], False), (("source", 1), [4], False), (("source", 2), [5], False)])
        self.assertEqual(net.arrive_from(("source", 1)), [])
        self.assertEqual(net.held_at(1), [4])
        self.assertEqual(net.waits_for(1), [("source", 2)])
        self.assertEqual(net.arrive_from(("source", 2)), [])
        self.assertEqual(net.held_at(1), [5])
        self.assertEqual(net.waits_for(1), [("source", 1)])
        self.assertEqual(net.on_the_way(), [(("source", 0), [9], False), (("merger", 1), [4], False)])
        self.assertEqual(net.arrive_from(("source", 0)), [])
        self.assertEqual(net.held_at(0), [9])
        self.assertEqual(net.waits_for(0), [("merger", 1)])
        self.assertEqual(net.arrive_from(("merger", 1)), [4])
        self.assertIsNone(net.close_source(1))
        self.assertEqual(net.on_the_way(), [(("source", 1), [], True)])
        self.assertEqual(net.arrive_from(("source", 1)), [])
        self.assertEqual(net.waits_for(1), [("source", 2)])
        self.assertEqual(net.on_the_way(), [(("merger", 1), [5], False)])
        self.assertIsNone(net.close_source(2))
        self.assertEqual(net.arrive_from(("source", 2)), [])
        self.assertEqual(net.on_the_way(), [(("merger", 1), [5], True)])
        self.assertEqual(net.arrive_from(("merger", 1)), [5])
        self.assertEqual(net.waits_for(0), [("merger", 1)])
        self.assertEqual(net.arrive_from(("merger", 1)), [9])
        self.assertEqual(net.waits_for(0), [("source", 0)])
        self.assertIs(net.is_finished(), False)
        net.close_source(0)
        self.assertIs(net.is_finished(), False)
        self.assertEqual(net.arrive_from(("source", 0)), [])
        self.assertIs(net.is_finished(), True)
        self.assertEqual(net.waits_for(0), [])
        self.assertEqual(net.result_so_far(), [4, 5, 9])
        self.assertEqual(net.family_so_far(), ([[9], [4], [5]], []))

    def test_one_source(self):
        net = Net([0])
        net.put_number(0, 3)
        net.put_number(0, 1)
        self.assertEqual(net.arrive_from(("source", 0)), [3])
        self.assertEqual(net.held_at(0), [])
        self.assertEqual(net.waits_for(0), [("source", 0)])
        net.close_source(0)
        self.assertEqual(net.on_the_way(), [(("source", 0), [1], True)])
        self.assertEqual(net.settle_all(), [1])
        self.assertIs(net.is_finished(), True)
        self.assertEqual(net.settle_all(), [])

    def test_a_closing_mark_travels_without_any_number(self):
        net = Net(nested(8, 0))
        net.close_source(0)
        for merger in range(7, 0, -1):
            lane = ("merger", merger + 1) if merger < 7 else ("source", 0)
            self.assertEqual(net.on_the_way(), [(lane, [], True)])
            self.assertEqual(net.arrive_from(lane), [])
            self.assertEqual(net.waits_for(merger), [])
            self.assertEqual(net.waits_for(merger - 1), [("merger", merger)])
        self.assertEqual(net.arrive_from(("merger", 1)), [])
        self.assertEqual(net.on_the_way(), [])
        self.assertIs(net.is_finished(), True)
        self.assertEqual(net.result_so_far(), [])

    def test_many_numbers_pass_at_once(self):
        net = Net([0, 1])
        for number in (1, 2, 0, 7):
            net.put_number(0, number)
        for _ in range(4):
            self.assertEqual(net.arrive_from(("source", 0)), [])
        net.put_number(1, 5)
        self.assertEqual(net.held_at(0), [0, 1, 2, 7])
        self.assertEqual(net.arrive_from(("source", 1)), [1, 2, 0, 5])
        net.close_source(1)
        self.assertEqual(net.arrive_from(("source", 1)), [7])

    def test_a_closed_input_is_not_exhausted(self):
        net = Net([0, 1])
        net.close_source(0)
        self.assertEqual(net.waits_for(0), [("source", 0), ("source", 1)])
        net.arrive_from(("source", 0))
        self.assertEqual(net.waits_for(0), [("source", 1)])
        net.put_number(1, 3)
        self.assertEqual(net.arrive_from(("source", 1)), [3])

    def test_lanes_are_told_in_order(self):
        net = Net([[2, [1]], [[0]]])
        for source, number in ((2, 5), (0, 4), (1, 3)):
            net.put_number(source, number)
            net.close_source(source)
        told_lanes = [lane for lane, _, _ in net.on_the_way()]
        self.assertEqual(told_lanes, [("source", 0), ("source", 1), ("source", 2)])
        for source in (0, 1, 2):
            net.arrive_from(("source", source))
            net.arrive_from(("source", source))
        self.assertEqual(net.on_the_way(), [(("merger", 2), [3], True), (("merger", 4), [4], True)])
        self.assertEqual(net.waits_for(1), [("merger", 2)])
        self.assertEqual(net.waits_for(0), [("merger", 1), ("merger", 3)])


class ModelTest(NetCase):
    def check_calls(self, plan, calls):
        """Make calls on a net and on the model; compare all answers and views."""
        net, model = self.pair(plan)
        mergers = count_mergers(plan)
        self.same_view(net, model, mergers)
        for call in calls:
            self.same_answer(net, model, call)
            self.same_view(net, model, mergers)

    def test_calls_at_random_also_wrong_ones(self):
        rng = random.Random(201)
        for plan in PLANS + [some_plan(rng, rng.randint(1, 12)) for _ in range(30)]:
            many = len(sources_in(plan))
            mergers = count_mergers(plan)
            numbers = some_numbers(rng, 40, "random")
            self.check_calls(plan, [some_call(rng, many, mergers, numbers) for _ in range(120)])

    def test_calls_that_change_the_net(self):
        rng = random.Random(202)
        for plan in PLANS + [some_plan(rng, rng.randint(1, 12)) for _ in range(20)]:
            net, model = self.pair(plan)
            unused = some_numbers(rng, 60, rng.choice(["random", "ascending", "descending"]))
            for _ in range(150):
                self.same_answer(net, model, changing_call(rng, model, unused))
                self.same_view(net, model, count_mergers(plan))

    def test_every_short_row_of_calls(self):
        """Walks through all rows of calls, going back by undo_last."""
        for plan, depth in (([0], 6), ([[0]], 5), ([0, 1], 5), ([0, [1]], 4), ([[1], [0]], 4), (TREE, 3)):
            net, model = self.pair(plan)
            many = len(sources_in(plan))
            calls = [("put_number", source, number) for source in range(many) for number in (0, 1)]
            calls.extend(("close_source", source) for source in range(many))
            calls.extend(("arrive_from", ("source", source)) for source in range(many))
            calls.extend(("arrive_from", ("merger", merger)) for merger in range(1, count_mergers(plan)))
            calls.append(("settle_all",))
            self.walk(net, model, count_mergers(plan), calls, depth)

    def walk(self, net, model, mergers, calls, depth):
        """Make each call, all rows behind it, and undo it."""
        view = self.same_view(net, model, mergers)
        if depth == 0:
            return
        for call in calls:
            answer = self.same_answer(net, model, call)
            if isinstance(answer, type):
                self.assertEqual(view_of(net, mergers), view)
            else:
                self.walk(net, model, mergers, calls, depth - 1)
                self.assertIsNone(net.undo_last())
                model.undo_last()
                self.assertEqual(view_of(net, mergers), view)


class ResultTest(NetCase):
    """Point 23: the result and the certain beginning."""

    def test_the_result_is_a_beginning_of_the_certain_beginning(self):
        rng = random.Random(211)
        for plan in PLANS * 2 + [some_plan(rng, rng.randint(1, 12)) for _ in range(30)]:
            net = Net(plan)
            unused = some_numbers(rng, 50, rng.choice(["random", "ascending", "descending", "nearly"]))
            for _ in range(150):
                self.assertNotIsInstance(told(net, changing_call(rng, net, unused)), type)
                family, unclosed = net.family_so_far()
                certain = certain_beginning(family, unclosed)
                result = net.result_so_far()
                self.assertEqual(result, certain[:len(result)])
                if not net.on_the_way():
                    self.assertEqual(result, certain)

    def test_it_is_equal_when_nothing_is_on_its_way(self):
        rng = random.Random(212)
        for plan in PLANS + [some_plan(rng, rng.randint(1, 12)) for _ in range(30)]:
            net = Net(plan)
            unused = some_numbers(rng, 40, "random")
            for _ in range(60):
                before = net.result_so_far()
                told(net, changing_call(rng, net, unused))
                appended = net.settle_all()
                family, unclosed = net.family_so_far()
                self.assertEqual(net.on_the_way(), [])
                self.assertEqual(net.result_so_far(), certain_beginning(family, unclosed))
                self.assertEqual(net.result_so_far()[len(net.result_so_far()) - len(appended):], appended)
                self.assertEqual(net.result_so_far()[:len(before)], before)
                self.assertIs(net.is_finished(), unclosed == [])

    def test_in_which_order_things_arrive_does_not_matter_in_the_end(self):
        rng = random.Random(213)
        for plan in PLANS + [some_plan(rng, 8) for _ in range(10)]:
            many = len(sources_in(plan))
            numbers = some_numbers(rng, 30, "random")
            puts = [(rng.randrange(many), number) for number in numbers]
            closed = [source for source in range(many) if rng.random() < 0.6]
            views = []
            for turn in range(4):
                net = Net(plan)
                for source, number in puts:
                    net.put_number(source, number)
                    while turn > 1 and net.on_the_way() and rng.random() < 0.5:
                        net.arrive_from(rng.choice(net.on_the_way())[0])
                for source in closed:
                    net.close_source(source)
                while turn > 0 and net.on_the_way():
                    net.arrive_from(rng.choice(net.on_the_way())[0])
                net.settle_all()
                views.append(view_of(net, count_mergers(plan)))
            self.assertEqual(views, views[:1] * 4)

    def test_what_is_put_is_on_its_way_held_or_in_the_result(self):
        rng = random.Random(214)
        for plan in PLANS + [some_plan(rng, rng.randint(1, 12)) for _ in range(10)]:
            net = Net(plan)
            unused = some_numbers(rng, 40, "random")
            for _ in range(100):
                told(net, changing_call(rng, net, unused))
                found = net.result_so_far()
                found.extend(number for _, numbers, _ in net.on_the_way() for number in numbers)
                for merger in range(count_mergers(plan)):
                    found.extend(net.held_at(merger))
                put = [number for queue in net.family_so_far()[0] for number in queue]
                self.assertEqual(sorted(found), sorted(put))

    def test_all_closed_and_settled(self):
        rng = random.Random(215)
        for plan in PLANS + [some_plan(rng, rng.randint(1, 12)) for _ in range(30)]:
            net = Net(plan)
            family = [[] for _ in sources_in(plan)]
            for number in some_numbers(rng, rng.choice([0, 1, 150]), "random"):
                source = rng.randrange(len(family))
                family[source].append(number)
                net.put_number(source, number)
            for source in rng.sample(range(len(family)), len(family)):
                net.close_source(source)
            self.assertEqual(net.settle_all(), merged_by_heads(family))
            self.assertIs(net.is_finished(), True)
            self.assertEqual(net.family_so_far(), (family, []))


class InnerTest(NetCase):
    """The mergers inside a net."""

    def settled_nets(self, seed):
        """Plans with nets to which calls were made until nothing was on its way."""
        rng = random.Random(seed)
        for plan in PLANS + [some_plan(rng, rng.randint(2, 12)) for _ in range(40)]:
            net = Net(plan)
            unused = some_numbers(rng, 60, "random")
            for _ in range(120):
                told(net, changing_call(rng, net, unused))
            net.settle_all()
            yield plan, net

    def test_each_merger_is_as_a_net_of_its_own(self):
        for plan, net in self.settled_nets(221):
            family, unclosed = net.family_so_far()
            for number, part in enumerate(text_order(plan)):
                sources = sources_in(part)
                inner = Net(renumbered(part, sources))
                for index, source in enumerate(sources):
                    for one in family[source]:
                        inner.put_number(index, one)
                    if source not in unclosed:
                        inner.close_source(index)
                own = [family[source] for source in sources]
                still = [index for index, source in enumerate(sources) if source in unclosed]
                self.assertEqual(inner.settle_all(), certain_beginning(own, still))
                self.assertEqual(inner.is_finished(), still == [])
                self.assertEqual(net.held_at(number), inner.held_at(0))
                self.assertEqual(len(net.waits_for(number)), len(inner.waits_for(0)))

    def test_a_merger_waits_as_its_inputs_are_exhausted(self):
        for plan, net in self.settled_nets(222):
            family, unclosed = net.family_so_far()
            # For each lane all that came through it, and whether its closing mark did.
            came = {("source", source): (queue, source not in unclosed) for source, queue in enumerate(family)}
            for number, lanes in reversed(list(enumerate(inputs_of(plan)))):
                queues = [came[lane][0] for lane in lanes]
                still = [index for index, lane in enumerate(lanes) if not came[lane][1]]
                beginning = certain_beginning(queues, still)
                came[("merger", number)] = (beginning, still == [])
                expected = [lanes[index] for index in exhausted_queues(queues, still)]
                self.assertEqual(net.waits_for(number), expected)
                left = {number for queue in queues for number in queue} - set(beginning)
                self.assertEqual(net.held_at(number), sorted(left))


def renumbered(part, sources):
    """The part of a plan as a plan of its own: its sources by their order."""
    if isinstance(part, list):
        return [renumbered(inner, sources) for inner in part]
    return sources.index(part)


class UndoTest(NetCase):
    def test_all_calls_undone_step_by_step(self):
        rng = random.Random(231)
        for plan in PLANS + [some_plan(rng, 12) for _ in range(5)]:
            net = Net(plan)
            mergers = count_mergers(plan)
            unused = some_numbers(rng, 150, "random")
            views = [view_of(net, mergers)]
            for _ in range(300):
                self.assertNotIsInstance(told(net, changing_call(rng, net, unused)), type)
                views.append(view_of(net, mergers))
            while len(views) > 1:
                self.assertEqual(view_of(net, mergers), views.pop())
                self.assertIsNone(net.undo_last())
            self.assertEqual(view_of(net, mergers), views[0])
            self.refused(net, mergers, errors.NothingToUndo, ("undo_last",))

    def test_calls_that_raised_an_error_are_not_undone(self):
        net = Net(TREE)
        wrong = [
            ("put_number", 3, 3), ("put_number", 0, None), ("close_source", 9), ("arrive_from", ("merger", 0)),
            ("arrive_from", ("source", 0)), ("waits_for", 2), ("held_at", 2),
        ]
        for call in wrong:
            self.assertIsInstance(told(net, call), type)
        self.refused(net, 2, errors.NothingToUndo, ("undo_last",))
        net.put_number(0, 3)
        for call in wrong[:4] + wrong[5:]:
            self.assertIsInstance(told(net, call), type)
        net.undo_last()
        self.assertEqual(net.family_so_far(), ([[], [], []], [0, 1, 2]))
        self.refused(net, 2, errors.NothingToUndo, ("undo_last",))

    def test_calls_that_only_ask_are_not_undone(self):
        net = Net(TREE)
        net.put_number(0, 3)
        view_of(net, 2)
        net.undo_last()
        self.refused(net, 2, errors.NothingToUndo, ("undo_last",))

    def test_settling_what_is_settled_is_a_call_too(self):
        net = Net(TREE)
        net.settle_all()
        net.put_number(0, 3)
        net.settle_all()
        net.settle_all()
        held = []
        for _ in range(4):
            held.append((net.held_at(0), net.on_the_way()))
            net.undo_last()
        way = [(("source", 0), [3], False)]
        self.assertEqual(held, [([3], []), ([3], []), ([], way), ([], [])])
        self.refused(net, 2, errors.NothingToUndo, ("undo_last",))

    def test_what_is_undone_can_be_done_again_or_otherwise(self):
        net = Net([0, 1])
        net.put_number(0, 3)
        net.undo_last()
        net.put_number(1, 3)
        net.close_source(1)
        net.undo_last()
        net.put_number(1, 1)
        net.close_source(1)
        net.close_source(0)
        net.undo_last()
        net.put_number(0, 2)
        self.assertEqual(net.settle_all(), [2])
        net.undo_last()
        net.undo_last()
        net.put_number(0, 7)
        self.assertEqual(net.settle_all(), [3, 1, 7])
        self.assertEqual(net.family_so_far(), ([[7], [3, 1]], [0]))

    def test_undone_more_often_than_possible(self):
        for plan in PLANS:
            net = Net(plan)
            for _ in range(3):
                self.refused(net, count_mergers(plan), errors.NothingToUndo, ("undo_last",))
            net.put_number(0, 5)
            net.undo_last()
            for _ in range(3):
                self.refused(net, count_mergers(plan), errors.NothingToUndo, ("undo_last",))

    def test_undone_in_between(self):
        rng = random.Random(232)
        for plan in PLANS + [some_plan(rng, 12) for _ in range(10)]:
            net = Net(plan)
            mergers = count_mergers(plan)
            unused = some_numbers(rng, 150, "random")
            kept = []
            for _ in range(300):
                if kept and rng.random() < 0.4:
                    call, _ = kept.pop()
                    net.undo_last()
                else:
                    call = changing_call(rng, net, unused)
                    kept.append((call, told(net, call)))
            again = Net(plan)
            for call, answer in kept:
                self.assertEqual(told(again, call), answer)
            self.assertEqual(view_of(again, mergers), view_of(net, mergers))


class ErrorTest(NetCase):
    def begun(self):
        """A net with numbers in all states, a source closed and one closed and arrived."""
        net = Net(TREE)
        for source, number in ((0, 3), (1, 4), (1, 8), (2, 2)):
            net.put_number(source, number)
        net.close_source(2)
        net.close_source(1)
        net.arrive_from(("source", 2))
        net.arrive_from(("source", 2))
        net.arrive_from(("source", 1))
        return net

    def test_no_plans(self):
        for value in NO_PLANS:
            self.refuses(errors.InvalidPlan, Net, value)

    def test_unknown_sources(self):
        for net in (Net(TREE), self.begun()):
            for value in NO_SOURCES:
                for number in (5, 3, None, True, "5", [5]):
                    self.refused(net, 2, errors.UnknownSource, ("put_number", value, number))
                self.refused(net, 2, errors.UnknownSource, ("close_source", value))

    def test_numbers_of_other_kinds(self):
        for net in (Net(TREE), self.begun()):
            for value in NO_INTEGERS:
                for source in (0, 1, 2):
                    self.refused(net, 2, errors.InvalidNumber, ("put_number", source, value))

    def test_closed_sources(self):
        net = self.begun()
        for number in (3, 4, 8, 2, 5, -1, BIG):
            self.refused(net, 2, errors.ClosedSource, ("put_number", 1, number))
            self.refused(net, 2, errors.ClosedSource, ("put_number", 2, number))
        self.refused(net, 2, errors.ClosedSource, ("close_source", 1))
        self.refused(net, 2, errors.ClosedSource, ("close_source", 2))
        net.settle_all()
        self.refused(net, 2, errors.ClosedSource, ("close_source", 1))
        self.refused(net, 2, errors.ClosedSource, ("put_number", 1, 9))

    def test_numbers_that_were_put_before(self):
        net = self.begun()
        for number in (3, 4, 8, 2):
            self.refused(net, 2, errors.UsedNumber, ("put_number", 0, number))
        net.settle_all()
        for number in (3, 4, 8, 2):
            self.refused(net, 2, errors.UsedNumber, ("put_number", 0, number))
        self.assertIsNone(net.put_number(0, 5))
        self.refused(net, 2, errors.UsedNumber, ("put_number", 0, 5))

    def test_unknown_lanes(self):
        for net in (Net(TREE), self.begun()):
            for value in NO_LANES:
                self.refused(net, 2, errors.UnknownLane, ("arrive_from", value))

    def test_lanes_of_other_nets(self):
        for plan in PLANS:
            many = len(sources_in(plan))
            mergers = count_mergers(plan)
            net = Net(plan)
            for index in range(15):
                here = errors.NothingOnTheWay if index < many else errors.UnknownLane
                self.refused(net, mergers, here, ("arrive_from", ("source", index)))
                here = errors.NothingOnTheWay if 0 < index < mergers else errors.UnknownLane
                self.refused(net, mergers, here, ("arrive_from", ("merger", index)))

    def test_lanes_in_which_nothing_is_on_its_way(self):
        net = self.begun()
        self.refused(net, 2, errors.NothingOnTheWay, ("arrive_from", ("source", 2)))
        net.arrive_from(("source", 1))
        net.arrive_from(("source", 1))
        self.refused(net, 2, errors.NothingOnTheWay, ("arrive_from", ("source", 1)))
        net.settle_all()
        for lane in (("source", 0), ("source", 1), ("source", 2), ("merger", 1)):
            self.refused(net, 2, errors.NothingOnTheWay, ("arrive_from", lane))

    def test_unknown_mergers(self):
        for net in (Net(TREE), self.begun()):
            for value in NO_MERGERS:
                self.refused(net, 2, errors.UnknownMerger, ("waits_for", value))
                self.refused(net, 2, errors.UnknownMerger, ("held_at", value))
        for plan in PLANS:
            mergers = count_mergers(plan)
            self.refused(Net(plan), mergers, errors.UnknownMerger, ("waits_for", mergers))
            self.refused(Net(plan), mergers, errors.UnknownMerger, ("held_at", mergers))

    def test_more_than_one_error_at_once(self):
        net = self.begun()
        self.refused(net, 2, errors.UnknownSource, ("put_number", True, "3"))
        self.refused(net, 2, errors.UnknownSource, ("put_number", 3, 3))
        self.refused(net, 2, errors.InvalidNumber, ("put_number", 1, True))
        self.refused(net, 2, errors.InvalidNumber, ("put_number", 2, [3]))
        self.refused(net, 2, errors.ClosedSource, ("put_number", 1, 3))

    def test_after_an_error_all_goes_on_as_if_it_had_not_been(self):
        rng = random.Random(241)
        for plan in PLANS:
            many, mergers = len(sources_in(plan)), count_mergers(plan)
            one, other = Net(plan), Net(plan)
            unused = some_numbers(rng, 40, "random")
            for _ in range(80):
                for wrong in (("put_number", many, 1), ("put_number", 0, "1"), ("arrive_from", ("merger", 0)),
                              ("close_source", -1), ("waits_for", None), ("held_at", mergers)):
                    self.assertIsInstance(told(one, wrong), type)
                call = changing_call(rng, other, unused)
                self.assertEqual(told(one, call), told(other, call))
                self.assertEqual(view_of(one, mergers), view_of(other, mergers))
            for _ in range(80):
                one.undo_last()
                other.undo_last()
                self.assertEqual(view_of(one, mergers), view_of(other, mergers))


class NewListsTest(NetCase):
    def test_changing_a_result_changes_no_later_one(self):
        rng = random.Random(251)
        for plan in PLANS + [some_plan(rng, 12) for _ in range(5)]:
            mergers = count_mergers(plan)
            one, other = Net(plan), Net(plan)
            unused = some_numbers(rng, 40, "random")
            for _ in range(80):
                call = changing_call(rng, other, unused)
                answer = told(one, call)
                self.assertEqual(answer, told(other, call))
                self.spoil([answer])
                self.spoil(view_of(one, mergers))
                self.assertEqual(view_of(one, mergers), view_of(other, mergers))
            for _ in range(80):
                one.undo_last()
                other.undo_last()
                self.spoil(view_of(one, mergers))
                self.assertEqual(view_of(one, mergers), view_of(other, mergers))

    def spoil(self, answers):
        """Change all lists in answers; check that none stands in two places."""
        found = lists_in(answers)
        self.assertEqual(len({id(one) for one in found}), len(found))
        for one in found:
            one.append(7 * 10 ** 31)
            one.reverse()

    def test_changing_the_plan_later(self):
        for plan in PLANS:
            given = copy.deepcopy(plan)
            net = Net(given)
            self.assertEqual(given, plan)
            for one in lists_in(given):
                one.append("changed")
            self.assertEqual(view_of(net, count_mergers(plan)), view_of(Net(plan), count_mergers(plan)))
            net.put_number(0, 3)
            net.close_source(0)
            self.assertEqual(net.settle_all(), [3] if len(sources_in(plan)) == 1 else [])

    def test_two_nets_with_one_plan_have_nothing_in_common(self):
        plan = [0, [1, 2]]
        one, other = Net(plan), Net(plan)
        one.put_number(0, 3)
        one.close_source(1)
        self.assertEqual(view_of(other, 2), view_of(Net(TREE), 2))
        other.put_number(2, 3)
        self.assertEqual(one.family_so_far(), ([[3], [], []], [0, 2]))
        self.refused(other, 2, errors.UsedNumber, ("put_number", 0, 3))

    def test_equal_plans_and_calls_give_equal_results(self):
        rng = random.Random(252)
        for plan in PLANS:
            nets = [Net(plan), Net(copy.deepcopy(plan))]
            many, mergers = len(sources_in(plan)), count_mergers(plan)
            for _ in range(100):
                call = some_call(rng, many, mergers, list(range(20)))
                answers = [told(net, copy.deepcopy(call)) for net in nets]
                self.assertEqual(answers[0], answers[1])
            self.assertEqual(view_of(nets[0], mergers), view_of(nets[1], mergers))


class LimitTest(NetCase):
    def test_the_most_calls(self):
        """150 puts of numbers of 30 digits, 12 closings and arrivals up to 300 calls."""
        rng = random.Random(261)
        deepest = [nested(7, source) for source in range(12)]
        for plan in (FLAT, deepest, deep_plan(8) + [9, 10, 11], some_plan(rng, 12)):
            many, mergers = len(sources_in(plan)), count_mergers(plan)
            net, model = self.pair(plan)
            for index in range(150):
                number = rng.choice([1, -1]) * (BIG - rng.randrange(10 ** 20) * 150 - index)
                call = ("put_number", rng.randrange(many), number)
                self.same_answer(net, model, call)
            for source in range(many):
                self.same_answer(net, model, ("close_source", source))
            for _ in range(300 - 150 - many - 1):
                call = ("arrive_from", rng.choice(net.on_the_way())[0])
                self.same_answer(net, model, call)
                self.same_view(net, model, mergers)
            self.same_answer(net, model, ("settle_all",))
            self.same_view(net, model, mergers)
            for _ in range(300):
                net.undo_last()
            self.assertEqual(view_of(net, mergers), view_of(Net(plan), mergers))

    def test_somewhat_beyond_the_limits(self):
        net = Net(list(range(40)))
        for number in range(400):
            net.put_number(number % 40, number)
        for source in range(40):
            net.close_source(source)
        self.assertEqual(net.settle_all(), list(range(400)))
        for _ in range(441):
            net.undo_last()
        net.put_number(39, 10 ** 60)
        self.assertEqual(net.family_so_far()[0][39], [10 ** 60])

    def test_zero_and_its_neighbours(self):
        for numbers in itertools.permutations([-1, 0, 1]):
            net = Net([0, 1])
            for number in numbers:
                net.put_number(0, number)
            net.close_source(1)
            self.assertEqual(net.settle_all(), list(numbers))


if __name__ == "__main__":
    unittest.main()
