"""The places of the numbers of a family in its result."""

from leastheads.errors import UnknownNumber
from leastheads.queues import is_integer, merge_queues, placed_blocks, require_family, require_index


def require_place(family, value):
    """Return the place of any value; raise UnknownNumber if it is no number of the family."""
    if is_integer(value):
        before = 0
        for record, index, block in placed_blocks(family):
            if value in block:
                return before + block.index(value)
            before += len(block)
    raise UnknownNumber("not a number of the family")


def place_of(family, number):
    """Return the place of a number."""
    require_family(family)
    return require_place(family, number)


def number_at(family, place):
    """Return the number with this place."""
    require_family(family)
    result = merge_queues(family)
    require_index(place, len(result))
    return result[place]


def comes_before(family, one, other):
    """Return whether the place of `one` is less than the place of `other`."""
    require_family(family)
    return require_place(family, one) < require_place(family, other)


def first_difference(family, other):
    """Return the least index at which the results differ, or None if they are equal."""
    require_family(family)
    require_family(other)
    here = merge_queues(family)
    there = merge_queues(other)
    for index, (mine, theirs) in enumerate(zip(here, there)):
        if mine != theirs:
            return index
    if len(here) == len(there):
        return None
    return min(len(here), len(there))
