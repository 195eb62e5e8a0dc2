"""The files of the package together: trees and delays, families that are moved and joined, limits."""

import random
import unittest

from helpers import BIG, KINDS, blocks_by_search, merged_by_heads, nested, some_families, some_family, some_numbers
from leastheads.backwards import blocks_to_move, count_families, nth_family, rank_of
from leastheads.dealing import (
    are_compatible, are_incompatible, fewest_dealing, fewest_queues, incompatible_blocks, is_dealing,
    misplaced_pair,
)
from leastheads.desk import Desk
from leastheads.nets import Net
from leastheads.opens import (
    certain_beginning, exhausted_queues, is_continuation, is_witness, witness_of,
)
from leastheads.places import comes_before, first_difference, number_at, place_of
from leastheads.plans import inputs_of, merger_results
from leastheads.queues import assignment_of, blocks_of, merged, same_result
from leastheads.texts import read_family, read_plan, show_family, show_plan
from net_helpers import count_mergers, view_of
from plan_helpers import FLAT, PLANS, deep_plan, some_plan, sources_in


def moved(value, factor, step):
    """The value with each number multiplied by the factor and increased by the step."""
    if isinstance(value, (list, tuple)):
        return type(value)([moved(part, factor, step) for part in value])
    return value * factor + step


def some_closed(rng, many):
    """About half of the indices below a number."""
    return [index for index in range(many) if rng.random() < 0.5]


def given_for(rng, family):
    """A list from which the queues of a family can be dealt."""
    left = [list(queue) for queue in family if queue]
    given = []
    while left:
        queue = rng.choice(left)
        given.append(queue.pop(0))
        left = [queue for queue in left if queue]
    return given


def net_of(plan, family, closed):
    """A net with this plan, on whose sources the family was put and some of them closed."""
    net = Net(plan)
    for source, queue in enumerate(family):
        for number in queue:
            net.put_number(source, number)
    for source in closed:
        net.close_source(source)
    return net


def flow(rng, net):
    """Let things arrive in a random order; return what each merger's lane brought."""
    brought = {}
    while net.on_the_way():
        lane, numbers, _ = rng.choice(net.on_the_way())
        brought.setdefault(lane, []).extend(numbers[:1])
        net.arrive_from(lane)
    return brought


class TreeTest(unittest.TestCase):
    """Trees of mergers and numbers that take their time."""

    def test_trees_give_the_result_of_the_family(self):
        rng = random.Random(501)
        for family in some_families(502):
            if len(family) <= 12:
                plan = some_plan(rng, len(family))
                net = net_of(plan, family, range(len(family)))
                results = merger_results(family, plan)
                flow(rng, net)
                self.assertEqual(results[0], merged_by_heads(family))
                self.assertEqual(net.result_so_far(), results[0])
                self.assertIs(net.is_finished(), True)

    def test_each_lane_brings_the_result_of_its_merger(self):
        rng = random.Random(503)
        for plan in PLANS + [some_plan(rng, rng.randint(2, 12)) for _ in range(40)]:
            family = some_family(rng, 40, rng.choice(KINDS), len(sources_in(plan)))
            brought = flow(rng, net_of(plan, family, range(len(family))))
            results = merger_results(family, plan)
            for lane in [lane for lanes in inputs_of(plan) for lane in lanes]:
                expected = family[lane[1]] if lane[0] == "source" else results[lane[1]]
                self.assertEqual(brought[lane], expected)

    def test_each_lane_of_an_open_family_brings_what_is_certain(self):
        rng = random.Random(504)
        for plan in PLANS + [some_plan(rng, rng.randint(2, 12)) for _ in range(40)]:
            many = len(sources_in(plan))
            family = some_family(rng, 40, rng.choice(KINDS), many)
            closed = some_closed(rng, many)
            brought = flow(rng, net_of(plan, family, closed))
            for merger, part in enumerate(lists_in_order(plan)):
                sources = sources_in(part)
                still = [index for index, source in enumerate(sources) if source not in closed]
                certain = certain_beginning([family[source] for source in sources], still)
                if merger > 0:
                    self.assertEqual(brought.get(("merger", merger), []), certain)

    def test_two_plans_for_one_family(self):
        rng = random.Random(505)
        for _ in range(100):
            many = rng.randint(1, 12)
            family = some_family(rng, 40, rng.choice(KINDS), many)
            closed = some_closed(rng, many)
            unclosed = [source for source in range(many) if source not in closed]
            for plan in (list(range(many)), some_plan(rng, many), nested(7, some_plan(rng, many, 1))):
                net = net_of(plan, family, closed)
                self.assertEqual(net.family_so_far(), (family, unclosed))
                flow(rng, net)
                self.assertEqual(net.result_so_far(), certain_beginning(family, unclosed))

    def test_the_flat_net_waits_for_the_exhausted_queues(self):
        rng = random.Random(506)
        for _ in range(100):
            many = rng.randint(1, 12)
            family = some_family(rng, 40, rng.choice(KINDS), many)
            closed = some_closed(rng, many)
            unclosed = [source for source in range(many) if source not in closed]
            net = net_of(list(range(many)), family, closed)
            net.settle_all()
            exhausted = [("source", source) for source in exhausted_queues(family, unclosed)]
            self.assertEqual(net.waits_for(0), exhausted)
            certain = certain_beginning(family, unclosed)
            left = [number for queue in family for number in queue if number not in certain]
            self.assertEqual(net.held_at(0), sorted(left))


def lists_in_order(plan):
    """The lists of a plan in the order in which they begin."""
    return [plan] + [one for part in plan if isinstance(part, list) for one in lists_in_order(part)]


class MovedTest(unittest.TestCase):
    """Families that are moved and multiplied behave as before."""

    def test_families(self):
        rng = random.Random(511)
        for family in some_families(512)[::2]:
            by = (rng.choice([1, 2, 7, 10 ** 9]), rng.choice([0, 1, -5, 10 ** 30, -10 ** 30]))
            other = moved(family, *by)
            result = merged(family)
            self.assertEqual(merged(other), moved(result, *by))
            self.assertEqual(blocks_of(merged(other)), moved(blocks_of(result), *by))
            self.assertEqual(assignment_of(other), assignment_of(family))
            self.assertEqual(rank_of(other), rank_of(family))
            self.assertEqual(count_families(merged(other), len(other)), count_families(result, len(family)))
            self.assertEqual(read_family(show_family(other)), other)
            for number in rng.sample(result, min(4, len(result))):
                place = place_of(family, number)
                self.assertEqual(place_of(other, moved(number, *by)), place)
                self.assertEqual(number_at(other, place), moved(number, *by))

    def test_open_families(self):
        rng = random.Random(513)
        for family in some_families(514)[::2]:
            by = (rng.choice([1, 3, 10 ** 9]), rng.choice([0, 1, -5, 10 ** 30, -10 ** 30]))
            other = moved(family, *by)
            for open_queues in (some_closed(rng, len(family)), [rng.randrange(len(family))]):
                certain = certain_beginning(family, open_queues)
                self.assertEqual(certain_beginning(other, open_queues), moved(certain, *by))
                self.assertEqual(exhausted_queues(other, open_queues), exhausted_queues(family, open_queues))
                found = witness_of(family, open_queues)
                if found is not None:
                    self.assertIs(is_witness(other, open_queues, moved(found, *by)), True)

    def test_dealings(self):
        rng = random.Random(515)
        for family in some_families(516)[::4]:
            by = (rng.choice([1, 3, 10 ** 9]), rng.choice([0, 1, -5, 10 ** 30, -10 ** 30]))
            wanted, given = merged(family), given_for(rng, family)
            there = (moved(given, *by), moved(wanted, *by))
            self.assertIsNone(misplaced_pair(*there))
            self.assertEqual(fewest_queues(*there), fewest_queues(given, wanted))
            self.assertIs(is_dealing(*there, moved(fewest_dealing(given, wanted), *by)), True)
            self.assertIs(are_incompatible(*there, moved(incompatible_blocks(given, wanted), *by)), True)

    def test_nets(self):
        rng = random.Random(517)
        for plan in PLANS + [some_plan(rng, rng.randint(1, 12)) for _ in range(20)]:
            many, mergers = len(sources_in(plan)), count_mergers(plan)
            family = some_family(rng, 40, rng.choice(KINDS), many)
            by = (rng.choice([1, 3, 10 ** 9]), rng.choice([0, 1, -5, 10 ** 30]))
            closed = some_closed(rng, many)
            one, other = net_of(plan, family, closed), net_of(plan, moved(family, *by), closed)
            while one.on_the_way():
                lane = rng.choice(one.on_the_way())[0]
                self.assertEqual(other.arrive_from(lane), moved(one.arrive_from(lane), *by))
                self.assertEqual(other.result_so_far(), moved(one.result_so_far(), *by))
                for merger in range(mergers):
                    self.assertEqual(other.waits_for(merger), one.waits_for(merger))
                    self.assertEqual(other.held_at(merger), moved(one.held_at(merger), *by))


class JoinedTest(unittest.TestCase):
    """Families that are joined, beside each other or one behind the other."""

    def pairs(self, seed):
        """Pairs of families of as many queues; all numbers of the second are greater."""
        rng = random.Random(seed)
        for many in (1, 2, 3, 7, 12):
            for kind in KINDS:
                for sizes in ((0, 5), (5, 0), (3, 4), (20, 20), (75, 75)):
                    numbers = sorted(some_numbers(rng, sum(sizes), "ascending"))
                    pair = []
                    for size in sizes:
                        own, numbers = numbers[:size], numbers[size:]
                        if kind != "ascending":
                            own = rng.sample(own, size)
                        family = [[] for _ in range(many)]
                        for number in own:
                            rng.choice(family).append(number)
                        pair.append(family)
                    yield rng, pair[0], pair[1]

    def test_beside_each_other(self):
        rng = random.Random(521)
        for family in some_families(522)[::3]:
            cut = rng.randrange(len(family) + 1)
            parts = [merged(part) for part in (family[:cut], family[cut:]) if part]
            self.assertEqual(merged(parts), merged(family))
            self.assertIs(same_result(parts, family), True)
            self.assertIsNone(first_difference(family, parts))

    def test_beside_each_other_with_open_queues(self):
        rng = random.Random(523)
        for family in some_families(524)[::3]:
            for open_queues in ([], some_closed(rng, len(family)), [rng.randrange(len(family))]):
                cut = rng.randrange(1, len(family) + 1)
                here = [index for index in open_queues if index < cut]
                there = [index - cut for index in open_queues if index >= cut]
                sides = [(family[:cut], here)] + ([(family[cut:], there)] if cut < len(family) else [])
                parts = [certain_beginning(*side) for side in sides]
                still = [index for index, side in enumerate(sides) if side[1]]
                self.assertEqual(certain_beginning(parts, still), certain_beginning(family, open_queues))

    def test_one_behind_the_other(self):
        for rng, low, high in self.pairs(525):
            joined = [one + other for one, other in zip(low, high)]
            self.assertEqual(merged(joined), merged(low) + merged(high))
            self.assertEqual(assignment_of(joined), assignment_of(low) + assignment_of(high))
            many = len(joined)
            fewer = count_families(merged(high), many)
            self.assertEqual(count_families(merged(joined), many), count_families(merged(low), many) * fewer)
            self.assertEqual(rank_of(joined), rank_of(low) * fewer + rank_of(high))
            for number in merged(high)[:5]:
                self.assertEqual(place_of(joined, number), len(merged(low)) + place_of(high, number))
            for one in merged(low)[:3]:
                for other in merged(high)[:3]:
                    self.assertIs(comes_before(joined, one, other), True)

    def test_one_behind_the_other_while_queues_are_open(self):
        for rng, low, high in self.pairs(526):
            joined = [one + other for one, other in zip(low, high)]
            self.assertIs(is_continuation(low, list(range(len(low))), joined), True)
            open_queues = some_closed(rng, len(low))
            certain = certain_beginning(low, open_queues)
            self.assertEqual(certain_beginning(joined, open_queues)[:len(certain)], certain)

    def test_dealings(self):
        for rng, low, high in self.pairs(527):
            wanted = merged(low) + merged(high)
            one, other = given_for(rng, low), given_for(rng, high)
            fewest = (fewest_queues(one, merged(low)), fewest_queues(other, merged(high)))
            # What stands behind can follow in each queue; what stands before cannot.
            self.assertEqual(fewest_queues(one + other, wanted), max(fewest))
            self.assertEqual(fewest_queues(other + one, wanted), sum(fewest))
            for begin in [block[0] for block in blocks_by_search(merged(low))][:3]:
                for end in [block[0] for block in blocks_by_search(merged(high))][:3]:
                    self.assertIs(are_compatible(one + other, wanted, begin, end), True)
                    self.assertIs(are_compatible(other + one, wanted, begin, end), False)

    def test_nets(self):
        for rng, low, high in self.pairs(528):
            many = len(low)
            plan = some_plan(rng, many)
            net = net_of(plan, low, [])
            net.settle_all()
            for source, queue in enumerate(high):
                for number in queue:
                    net.put_number(source, number)
                net.close_source(source)
            flow(rng, net)
            self.assertEqual(net.result_so_far(), merged(low) + merged(high))
            self.assertIs(net.is_finished(), True)


class LimitTest(unittest.TestCase):
    """Arguments up to the limits of point 4."""

    def families(self):
        """Families of 150 numbers of 30 digits in one queue up to 150."""
        rng = random.Random(531)
        numbers = [rng.choice([1, -1]) * (BIG - 7 * index) for index in range(150)]
        yield [numbers]
        yield [sorted(numbers)]
        yield [sorted(numbers, reverse=True)]
        yield [[number] for number in numbers]
        for many in (2, 12, 50, 150):
            family = [[] for _ in range(many)]
            for number in rng.sample(numbers, 150):
                rng.choice(family).append(number)
            yield family

    def test_families(self):
        rng = random.Random(532)
        for family in self.families():
            result = merged(family)
            self.assertEqual(result, merged_by_heads(family))
            self.assertEqual(nth_family(result, len(family), rank_of(family)), family)
            self.assertEqual([number_at(family, place_of(family, number)) for number in result], result)
            self.assertEqual(blocks_to_move(family, family), [])
            for open_queues in ([], list(range(len(family))), some_closed(rng, len(family)), [len(family) - 1]):
                certain = certain_beginning(family, open_queues)
                self.assertEqual(certain, result[:len(certain)])
                found = witness_of(family, open_queues)
                self.assertEqual(found is None, open_queues == [])
                if found is not None:
                    self.assertIs(is_witness(family, open_queues, found), True)
            if len(family) <= 50:
                text = show_family(family)
                self.assertEqual(read_family(text), family)

    def test_dealings(self):
        rng = random.Random(533)
        for family in self.families():
            wanted, given = merged(family), given_for(rng, family)
            many = fewest_queues(given, wanted)
            self.assertLessEqual(many, len(family))
            self.assertEqual(len(fewest_dealing(given, wanted)), many)
            self.assertEqual(len(incompatible_blocks(given, wanted)), many)

    def test_nets_and_desks(self):
        rng = random.Random(534)
        deepest = [nested(7, source) for source in range(12)]
        for plan in (FLAT, deepest, deep_plan(8) + [9, 10, 11], some_plan(rng, 12)):
            family = [[] for _ in range(12)]
            for index in range(150):
                rng.choice(family).append(rng.choice([1, -1]) * (BIG - 7 * index))
            net = net_of(plan, family, range(12))
            desk = Desk()
            desk.execute(f"net {show_plan(plan)}")
            for source, queue in enumerate(family):
                for number in queue:
                    desk.execute(f"put {source} {number}")
                desk.execute(f"close {source}")
            result = merged_by_heads(family)
            self.assertEqual(net.settle_all(), result)
            self.assertEqual(desk.execute("settle"), ",".join(map(str, result)))
            self.assertEqual(view_of(Net(read_plan(show_plan(plan))), 1), view_of(Net(plan), 1))


if __name__ == "__main__":
    unittest.main()
