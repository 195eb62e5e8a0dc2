"""Plans of mergers, the inputs of the mergers, and their results."""

from leastheads.errors import InvalidPlan
from leastheads.queues import is_integer, merge_queues, require_family

DEEPEST = 8


def is_plan(value):
    """Return whether any value is a plan for some number of queues."""
    if not isinstance(value, list):
        return False
    sources = set()
    left = [(value, 1)]
    while left:
        part, depth = left.pop()
        if is_integer(part):
            if part in sources:
                return False
            sources.add(part)
        elif isinstance(part, list) and len(part) > 0 and depth <= DEEPEST:
            left.extend([(inner, depth + 1) for inner in part])
        else:
            return False
    return sorted(sources) == list(range(len(sources)))


def count_sources(plan):
    """Return the number of integers in a plan or in one of its lists."""
    return sum([count_sources(part) if isinstance(part, list) else 1 for part in plan])


def require_plan(value):
    """Raise InvalidPlan if the value is not a plan."""
    if not is_plan(value):
        raise InvalidPlan("not a plan")


def require_plan_for(value, many):
    """Raise InvalidPlan if the value is not a plan for so many queues."""
    require_plan(value)
    if count_sources(value) != many:
        raise InvalidPlan("a plan for another number of queues")


def add_inputs(merger, inputs):
    """Append the inputs of a list of a plan, then those of the lists in it."""
    lanes = []
    inputs.append(lanes)
    for part in merger:
        if isinstance(part, list):
            # As many mergers as have begun before: this is the number of the next.
            lanes.append(("merger", len(inputs)))
            add_inputs(part, inputs)
        else:
            lanes.append(("source", part))


def inputs_of(plan):
    """Return for each merger the list of its inputs."""
    require_plan(plan)
    inputs = []
    add_inputs(plan, inputs)
    return inputs


def queue_in(lane, family, results):
    """Return the numbers that come through the lane."""
    kind, index = lane
    if kind == "source":
        return family[index]
    return results[index]


def merger_results(family, plan):
    """Return the list of the results of all mergers."""
    require_family(family)
    require_plan_for(plan, len(family))
    inputs = inputs_of(plan)
    results = [[] for _ in inputs]
    # Inner mergers begin later, so they have greater numbers and are merged first.
    for merger in reversed(range(len(inputs))):
        queues = [queue_in(lane, family, results) for lane in inputs[merger]]
        results[merger] = merge_queues(queues)
    return results
