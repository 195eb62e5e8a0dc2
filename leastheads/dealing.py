"""Dealing a given list into queues so that their result is a wanted list."""

from leastheads.errors import Different, Misplaced, UnknownNumber
from leastheads.queues import (
    is_ascending, is_family, is_integer, merge_queues, require_numbers, split_blocks,
)


def require_lists(given, wanted):
    """Raise InvalidNumbers or Different if these are not lists of the same numbers."""
    require_numbers(given)
    require_numbers(wanted)
    if sorted(given) != sorted(wanted):
        raise Different("not lists of the same numbers")


def indices_in(numbers):
    """Return the index of each number of a list."""
    return {number: index for index, number in enumerate(numbers)}


def first_misplaced(given, wanted):
    """Return the misplaced pair that comes first in the wanted list, or None."""
    indices = indices_in(given)
    for block in split_blocks(wanted):
        for one, other in zip(block, block[1:]):
            if indices[one] > indices[other]:
                return (one, other)
    return None


def require_no_misplaced(given, wanted):
    """Raise Misplaced if there is a misplaced pair."""
    pair = first_misplaced(given, wanted)
    if pair is not None:
        raise Misplaced(pair)


def misplaced_pair(given, wanted):
    """Return the misplaced pair whose first number has the least index, or None."""
    require_lists(given, wanted)
    return first_misplaced(given, wanted)


def spans_of(given, wanted):
    """Return, for each record, the indices of it and of its block's last number in `given`."""
    indices = indices_in(given)
    return {block[0]: (indices[block[0]], indices[block[-1]]) for block in split_blocks(wanted)}


def can_follow(spans, low, high):
    """Return whether the block of `high` may stand behind that of `low` in a queue."""
    return low < high and spans[low][1] < spans[high][0]


def require_record(spans, value):
    """Raise UnknownNumber if the value is not a record of the wanted list."""
    if not is_integer(value) or value not in spans:
        raise UnknownNumber("not a record of the wanted list")


def are_compatible(given, wanted, one, other):
    """Return whether the blocks with these records are two that are compatible."""
    require_lists(given, wanted)
    spans = spans_of(given, wanted)
    require_record(spans, one)
    require_record(spans, other)
    return can_follow(spans, one, other) or can_follow(spans, other, one)


def is_dealing(given, wanted, value):
    """Return whether any value is a dealing."""
    require_lists(given, wanted)
    if not is_family(value) or merge_queues(value) != wanted:
        return False
    indices = indices_in(given)
    return all([is_ascending([indices[number] for number in queue]) for queue in value])


def chains_of(spans):
    """Return all records in as few chains as possible, each a list for one queue."""
    chains = {}
    for begin, record in sorted([(spans[low][0], low) for low in spans]):
        ends = [end for end in chains if can_follow(spans, end, record)]
        # The blocks that are still to come begin later: each could follow all of these ends
        # that are smaller records than its own. So the greatest end is the least missed.
        chain = chains.pop(max(ends)) if len(ends) > 0 else []
        chains[record] = chain + [record]
    return list(chains.values())


def apart_in(spans, chains):
    """Return one record of each chain, so that their blocks are incompatible in pairs."""
    left = chains
    while True:
        ends = [chain[-1] for chain in left]
        above = [high for high in ends if any([can_follow(spans, low, high) for low in ends])]
        if len(above) == 0:
            return sorted(ends)
        # As there are as few chains as possible, some set has a record of each (point 18).
        # Its records are always among what is left: a block that can follow the end of
        # another chain can follow all of that chain, so its record is not in the set.
        left = [chain[:-1] if chain[-1] in above else chain for chain in left]


def fewest_queues(given, wanted):
    """Return the least number of non-empty queues of a dealing."""
    require_lists(given, wanted)
    require_no_misplaced(given, wanted)
    return len(chains_of(spans_of(given, wanted)))


def fewest_dealing(given, wanted):
    """Return a dealing with as few queues as possible, none of them empty."""
    require_lists(given, wanted)
    require_no_misplaced(given, wanted)
    if len(given) == 0:
        return [[]]
    blocks = {block[0]: block for block in split_blocks(wanted)}
    chains = chains_of(spans_of(given, wanted))
    return [[number for record in chain for number in blocks[record]] for chain in chains]


def are_incompatible(given, wanted, value):
    """Return whether any value is an ascending list of records of incompatible blocks."""
    require_lists(given, wanted)
    if not is_ascending(value):
        return False
    spans = spans_of(given, wanted)
    if not all([record in spans for record in value]):
        return False
    return not any([can_follow(spans, low, high) for low in value for high in value])


def incompatible_blocks(given, wanted):
    """Return as many records of incompatible blocks as possible."""
    require_lists(given, wanted)
    require_no_misplaced(given, wanted)
    spans = spans_of(given, wanted)
    return apart_in(spans, chains_of(spans))
