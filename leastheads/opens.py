"""Families with queues that may still grow: what is certain of their results."""

from leastheads.errors import InvalidOpen
from leastheads.queues import are_indices, is_family, merge_queues, require_family


def require_open(family, open_queues):
    """Raise InvalidFamily or InvalidOpen if the values are not what their names say."""
    require_family(family)
    if not are_indices(open_queues, len(family)):
        raise InvalidOpen("not an ascending list of queues of the family")


def queues_without(queues, indices):
    """Return those of the indices whose queues have no number."""
    return [index for index in indices if len(queues[index]) == 0]


def merge_waiting(queues, waiting):
    """Return what is passed on until a queue to wait for has no number, and what is left."""
    left = [list(queue) for queue in queues]
    beginning = []
    while len(queues_without(left, waiting)) == 0:
        heads = [queue for queue in left if len(queue) > 0]
        if len(heads) == 0:
            break
        least = min(heads, key=lambda queue: queue[0])
        beginning.append(least.pop(0))
    return (beginning, left)


def certain_beginning(family, open_queues):
    """Return the longest list with which the results of all continuations begin."""
    require_open(family, open_queues)
    beginning, _ = merge_waiting(family, open_queues)
    return beginning


def exhausted_queues(family, open_queues):
    """Return the queues for which the merging with waiting stops."""
    require_open(family, open_queues)
    _, left = merge_waiting(family, open_queues)
    return queues_without(left, open_queues)


def continues(family, open_queues, value):
    """Return whether any value is a continuation of a family that is known to be one."""
    if not is_family(value) or len(value) != len(family):
        return False
    for index, (present, queue) in enumerate(zip(family, value)):
        known = queue[:len(present)] if index in open_queues else queue
        if known != present:
            return False
    return True


def is_continuation(family, open_queues, value):
    """Return whether any value is a continuation."""
    require_open(family, open_queues)
    return continues(family, open_queues, value)


def is_witness(family, open_queues, value):
    """Return whether any value is a witness that nothing more is certain."""
    require_open(family, open_queues)
    if not isinstance(value, tuple) or len(value) != 2:
        return False
    if not all([continues(family, open_queues, part) for part in value]):
        return False
    # As these are continuations, their results begin with the certain beginning.
    at = len(certain_beginning(family, open_queues))
    one, other = [merge_queues(part) for part in value]
    # These slices are empty where a result ends.
    return one[at:at + 1] != other[at:at + 1]


def witness_of(family, open_queues):
    """Return a witness that nothing more is certain, or None if no queue can grow."""
    exhausted = exhausted_queues(family, open_queues)
    if len(exhausted) == 0:
        return None
    present = [list(queue) for queue in family]
    grown = [list(queue) for queue in family]
    # A number less than all others passes at once when it becomes a head: directly
    # behind the certain beginning, where the other result has none or a greater one.
    least = min([number for queue in family for number in queue], default=0)
    grown[exhausted[0]].append(least - 1)
    return (present, grown)
