"""All families with a given result: their number, their order, given lengths."""

from leastheads.errors import Different, InvalidCount, InvalidLengths, TooMany
from leastheads.queues import (
    is_integer, merge_queues, placed_blocks, require_family, require_index, require_numbers, split_blocks,
    spread_blocks,
)

MOST_QUEUES = 150
MOST_CASES = 20000


def require_count(value):
    """Raise InvalidCount if the value is not an integer from 1 to 150."""
    if not is_integer(value) or not 1 <= value <= MOST_QUEUES:
        raise InvalidCount("not a number of queues from 1 to 150")


def power(base, exponent):
    """Return the power of two integers; the exponent is from 0 on."""
    found = 1
    for _ in range(exponent):
        found = found * base
    return found


def digits_of(number, base, many):
    """Return the last `many` digits of the number in this base, as a list."""
    digits = []
    rest = number
    for _ in range(many):
        rest, digit = divmod(rest, base)
        digits.append(digit)
    return digits[::-1]


def count_families(result, many):
    """Return the number of families of `many` queues with this result."""
    require_numbers(result)
    require_count(many)
    return power(many, len(split_blocks(result)))


def nth_family(result, many, number):
    """Return the family of `many` queues with this result and this number."""
    require_index(number, count_families(result, many))
    blocks = split_blocks(result)
    # Lists of so many digits ascend as the numbers that they write do.
    return spread_blocks(blocks, digits_of(number, many, len(blocks)), many)


def rank_of(family):
    """Return the number of the family among those with the same result."""
    require_family(family)
    rank = 0
    for record, index, block in placed_blocks(family):
        rank = rank * len(family) + index
    return rank


def are_lengths(value):
    """Return whether any value is a list of lengths."""
    if not isinstance(value, list) or len(value) == 0:
        return False
    return all([is_integer(length) and length >= 0 for length in value])


def require_lengths(value):
    """Raise InvalidLengths if the value is not lengths, TooMany if they give too many cases."""
    if not are_lengths(value):
        raise InvalidLengths("not a list of integers from 0 on")
    cases = 1
    for length in value:
        cases = cases * (length + 1)
    if cases > MOST_CASES:
        raise TooMany(cases)


def slots_of(lengths):
    """Return (index, weight, length) for each queue that has room for a number.

    A state is one integer: how many numbers each queue still takes, each of these
    times the weight of its queue. So there are at most as many states as cases.
    """
    slots = []
    weight = 1
    for index, length in enumerate(lengths):
        if length > 0:
            slots.append((index, weight, length))
            weight = weight * (length + 1)
    return slots


def full_room(slots):
    """Return the state in which no number is in any queue."""
    return sum([weight * length for index, weight, length in slots])


def room_in(room, slot):
    """Return how many numbers the queue of the slot still takes in this state."""
    index, weight, length = slot
    return (room // weight) % (length + 1)


def ways_before(ways, size, slots):
    """Return {state: ways} before a block of this size, from those behind it."""
    earlier = {}
    for room in ways:
        for slot in slots:
            index, weight, length = slot
            if room_in(room, slot) + size <= length:
                more = room + size * weight
                earlier[more] = earlier.get(more, 0) + ways[room]
    return earlier


def ways_of(blocks, slots):
    """Return {state: ways to fill it with the blocks from there on} for each block and the end."""
    tables = [{0: 1}]
    for block in reversed(blocks):
        tables.append(ways_before(tables[-1], len(block), slots))
    return tables[::-1]


def options_in(room, ways, size, slots):
    """Return (queue, state behind it, ways from there) for each queue that can take the block."""
    options = []
    for slot in slots:
        index, weight, length = slot
        less = room - size * weight
        if room_in(room, slot) >= size and less in ways:
            options.append((index, less, ways[less]))
    return options


def count_with_lengths(result, lengths):
    """Return the number of families with this result and these lengths."""
    require_numbers(result)
    require_lengths(lengths)
    slots = slots_of(lengths)
    # With a sum that does not fit, no state before the first block is the full one.
    return ways_of(split_blocks(result), slots)[0].get(full_room(slots), 0)


def nth_with_lengths(result, lengths, number):
    """Return the family with this result, these lengths and this number."""
    require_index(number, count_with_lengths(result, lengths))
    blocks = split_blocks(result)
    slots = slots_of(lengths)
    room = full_room(slots)
    rest = number
    assignment = []
    for block, ways in zip(blocks, ways_of(blocks, slots)[1:]):
        options = options_in(room, ways, len(block), slots)
        at = 0
        # All families with the block in an earlier queue come before the one wanted.
        while rest >= options[at][2]:
            rest = rest - options[at][2]
            at += 1
        index, room, _ = options[at]
        assignment.append(index)
    return spread_blocks(blocks, assignment, len(lengths))


def blocks_to_move(family, other):
    """Return the records of the blocks that lie in queues with different indices."""
    require_family(family)
    require_family(other)
    if len(family) != len(other) or merge_queues(family) != merge_queues(other):
        raise Different("not the same result and number of queues")
    here = placed_blocks(family)
    there = placed_blocks(other)
    return [mine[0] for mine, theirs in zip(here, there) if mine[1] != theirs[1]]
