"""Lists of numbers, families of queues, their blocks and their results."""

from leastheads.errors import InvalidFamily, InvalidIndex, InvalidNumbers


def is_integer(value):
    """Return whether any value is an integer (True and False are none)."""
    return isinstance(value, int) and not isinstance(value, bool)


def is_index(value, many):
    """Return whether any value is an integer from 0 to `many` minus 1."""
    return is_integer(value) and 0 <= value < many


def require_index(value, many):
    """Raise InvalidIndex if the value is not an integer from 0 to `many` minus 1."""
    if not is_index(value, many):
        raise InvalidIndex("not one of the indices or numbers from 0 on")


def is_numbers(value):
    """Return whether any value is a list of numbers."""
    if not isinstance(value, list):
        return False
    if not all([is_integer(number) for number in value]):
        return False
    return len(set(value)) == len(value)


def is_ascending(value):
    """Return whether any value is an ascending list of different integers."""
    return is_numbers(value) and value == sorted(value)


def are_indices(value, many):
    """Return whether any value is an ascending list of different indices below `many`."""
    return is_ascending(value) and all([is_index(index, many) for index in value])


def is_family(value):
    """Return whether any value is a family."""
    if not isinstance(value, list) or len(value) == 0:
        return False
    if not all([isinstance(queue, list) for queue in value]):
        return False
    return is_numbers([number for queue in value for number in queue])


def require_numbers(value):
    """Raise InvalidNumbers if the value is not a list of numbers."""
    if not is_numbers(value):
        raise InvalidNumbers("not a list of different integers")


def require_family(value):
    """Raise InvalidFamily if the value is not a family."""
    if not is_family(value):
        raise InvalidFamily("not a list of queues without a number twice")


def split_blocks(numbers):
    """Return the blocks of a list that is known to be a list of numbers."""
    blocks = []
    for number in numbers:
        # The record of the last block is the greatest number so far.
        if len(blocks) == 0 or number > blocks[-1][0]:
            blocks.append([number])
        else:
            blocks[-1].append(number)
    return blocks


def placed_blocks(queues):
    """Return (record, index of the queue, block) for each block, by ascending record."""
    placed = []
    for index, queue in enumerate(queues):
        for block in split_blocks(queue):
            placed.append((block[0], index, block))
    return sorted(placed, key=lambda row: row[0])


def merge_queues(queues):
    """Return the result of queues that are known to have no number twice."""
    result = []
    # When a record is the least head, the numbers behind it in its block are less
    # than all other heads: so a block passes whole, before any greater record.
    for record, index, block in placed_blocks(queues):
        result.extend(block)
    return result


def spread_blocks(blocks, assignment, many):
    """Return the family of `many` queues with each block in its queue of the assignment."""
    family = [[] for _ in range(many)]
    for block, index in zip(blocks, assignment):
        family[index].extend(block)
    return family


def blocks_of(numbers):
    """Return the list of the blocks of a list of numbers, each as a list."""
    require_numbers(numbers)
    return split_blocks(numbers)


def merged(family):
    """Return the result of the family."""
    require_family(family)
    return merge_queues(family)


def assignment_of(family):
    """Return, for each block of the result in order, the index of its queue."""
    require_family(family)
    return [index for record, index, block in placed_blocks(family)]


def same_result(family, other):
    """Return whether both families have the same result."""
    require_family(family)
    require_family(other)
    return merge_queues(family) == merge_queues(other)
