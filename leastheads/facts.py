"""Facts about families of two queues: contradictions, families that satisfy them."""

from leastheads.backwards import digits_of, power
from leastheads.errors import Contradiction, InvalidFacts
from leastheads.queues import (
    are_indices, is_family, is_index, is_integer, merge_queues, require_index, require_numbers,
    split_blocks, spread_blocks,
)


def is_number_of(result, value):
    """Return whether any value is a number of the result."""
    return is_integer(value) and value in result


def is_fact(result, value):
    """Return whether any value is a fact about numbers of the result."""
    if not isinstance(value, tuple) or len(value) != 3:
        return False
    kind, one, other = value
    if not isinstance(kind, str) or not is_number_of(result, one):
        return False
    if kind == "in":
        return is_index(other, 2)
    return kind in ("same", "apart") and is_number_of(result, other) and one != other


def all_facts(result, value):
    """Return whether any value is a list of facts about numbers of the result."""
    return isinstance(value, list) and all([is_fact(result, fact) for fact in value])


def require_facts(result, facts):
    """Raise InvalidNumbers or InvalidFacts if the values are not what their names say."""
    require_numbers(result)
    if not all_facts(result, facts):
        raise InvalidFacts("not a list of facts about numbers of the result")


def are_facts(result, value):
    """Return whether any value is facts about numbers of the result."""
    require_numbers(result)
    return all_facts(result, value)


def holds(fact, queues):
    """Return whether the fact is true, for {number: index of its queue}."""
    kind, one, other = fact
    if kind == "in":
        return queues[one] == other
    return (queues[one] == queues[other]) == (kind == "same")


def satisfies(result, facts, value):
    """Return whether any value is a family with this result that satisfies all facts."""
    require_facts(result, facts)
    if not is_family(value) or len(value) != 2 or merge_queues(value) != result:
        return False
    queues = {number: index for index, queue in enumerate(value) for number in queue}
    return all([holds(fact, queues) for fact in facts])


def nodes_of(result):
    """Return, for each number of the result, the node of its block, from 1 on.

    Node 0 stands for a block that is always in queue 0: so a fact about one number
    says something about two nodes, too.
    """
    nodes = {}
    for index, block in enumerate(split_blocks(result)):
        for number in block:
            nodes[number] = index + 1
    return nodes


def link_of(fact, nodes):
    """Return two nodes and 1 if the fact puts them into different queues, else 0."""
    kind, one, other = fact
    if kind == "in":
        return (nodes[one], 0, other)
    return (nodes[one], nodes[other], 1 if kind == "apart" else 0)


def join_groups(leaders, sides, drop, keep, turn):
    """Put the group with the leader `drop` into that of `keep`, with its sides turned."""
    for node in range(len(leaders)):
        if leaders[node] == drop:
            leaders[node] = keep
            sides[node] = sides[node] ^ turn


def solve(result, facts):
    """Return what the facts say of the nodes, or None if they contradict each other.

    That is a list of leaders and one of sides: the leader of a node is the least node
    to which the facts bind it, its side is 1 if both are in different queues, else 0.
    """
    nodes = nodes_of(result)
    leaders = list(range(len(split_blocks(result)) + 1))
    sides = [0 for _ in leaders]
    for fact in facts:
        one, other, apart = link_of(fact, nodes)
        turn = sides[one] ^ sides[other] ^ apart
        keep = min(leaders[one], leaders[other])
        drop = max(leaders[one], leaders[other])
        if keep != drop:
            join_groups(leaders, sides, drop, keep, turn)
        elif turn == 1:
            return None
    return (leaders, sides)


def contradict(result, facts):
    """Return whether the facts contradict each other."""
    return solve(result, facts) is None


def least_contradiction(result, facts):
    """Return a contradiction of facts that are known to contradict each other."""
    kept = list(range(len(facts)))
    for index in range(len(facts)):
        fewer = [at for at in kept if at != index]
        if contradict(result, [facts[at] for at in fewer]):
            kept = fewer
    return kept


def contradiction_of(result, facts):
    """Return a contradiction, or None if the facts do not contradict each other."""
    require_facts(result, facts)
    if contradict(result, facts):
        return least_contradiction(result, facts)
    return None


def is_contradiction(result, facts, value):
    """Return whether any value is a contradiction."""
    require_facts(result, facts)
    if not are_indices(value, len(facts)) or not contradict(result, [facts[index] for index in value]):
        return False
    for out in value:
        if contradict(result, [facts[index] for index in value if index != out]):
            return False
    return True


def free_leaders(leaders):
    """Return the ascending list of the leaders whose queue the facts do not tell."""
    return [node for node in range(1, len(leaders)) if leaders[node] == node]


def count_satisfying(result, facts):
    """Return the number of families with this result that satisfy all facts."""
    require_facts(result, facts)
    solved = solve(result, facts)
    if solved is None:
        return 0
    return power(2, len(free_leaders(solved[0])))


def nth_satisfying(result, facts, number):
    """Return the family with this number among those that satisfy all facts."""
    require_index(number, count_satisfying(result, facts))
    leaders, sides = solve(result, facts)
    free = free_leaders(leaders)
    queues = {0: 0}
    # A leader comes before all other nodes of its group: so the digits of the number,
    # put on the leaders in order, make the assignments ascend with the numbers.
    for leader, digit in zip(free, digits_of(number, 2, len(free))):
        queues[leader] = digit
    assignment = [queues[leaders[node]] ^ sides[node] for node in range(1, len(leaders))]
    return spread_blocks(split_blocks(result), assignment, 2)


def opposite_of(fact):
    """Return the fact that is true if and only if this one is not."""
    kind, one, other = fact
    if kind == "in":
        return (kind, one, 1 - other)
    return ("apart" if kind == "same" else "same", one, other)


def follows(result, facts, fact):
    """Return whether all families with this result that satisfy the facts satisfy `fact`."""
    require_facts(result, facts)
    require_facts(result, [fact])
    if contradict(result, facts):
        raise Contradiction(least_contradiction(result, facts))
    return contradict(result, facts + [opposite_of(fact)])
