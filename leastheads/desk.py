"""A desk: nets that are led by commands in words."""

from leastheads.errors import InvalidCommand, InvalidText, NoNet
from leastheads.nets import Net
from leastheads.opens import certain_beginning
from leastheads.texts import digits_in, is_digits, is_number_text, read_number, read_plan, show_queue

INDEX_DIGITS = 9
NUMBER_DIGITS = 30

# The kinds of the words behind the first word of each command.
FORMS = {
    "net": ("PLAN",),
    "put": ("SOURCE", "NUMBER"),
    "close": ("SOURCE",),
    "arrive": ("LANE",),
    "settle": (),
    "result": (),
    "transit": (),
    "waits": ("MERGER",),
    "held": ("MERGER",),
    "certain": (),
    "finished": (),
    "undo": (),
}
LANE_KINDS = {"s": "source", "m": "merger"}


def plan_in(word):
    """Return the plan that the word writes, or None."""
    try:
        return read_plan(word)
    except InvalidText:
        return None


def index_in(word):
    """Return the source or merger that the word writes, or None."""
    if is_digits(word) and len(word) <= INDEX_DIGITS:
        return read_number(word)
    return None


def number_in(word):
    """Return the number that the word writes, or None."""
    if is_number_text(word) and len(digits_in(word)) <= NUMBER_DIGITS:
        return read_number(word)
    return None


def lane_in(word):
    """Return the lane that the word writes, or None."""
    kind = LANE_KINDS.get(word[:1])
    index = index_in(word[1:])
    if kind is None or index is None:
        return None
    return (kind, index)


def value_in(kind, word):
    """Return what a word of this kind says, or None if it is not of this kind."""
    if kind == "PLAN":
        return plan_in(word)
    if kind == "NUMBER":
        return number_in(word)
    if kind == "LANE":
        return lane_in(word)
    return index_in(word)


def read_command(row):
    """Return the first word of a command and the values of the others."""
    if not isinstance(row, str):
        raise InvalidCommand("not a text")
    first, *words = row.split(" ")
    kinds = FORMS.get(first)
    if kinds is None or len(kinds) != len(words):
        raise InvalidCommand("not the words of a command")
    values = [value_in(kind, word) for kind, word in zip(kinds, words)]
    if any([value is None for value in values]):
        raise InvalidCommand("a word that the command does not take")
    return (first, values)


def show_lane(lane):
    """Return the lane as commands write it."""
    kind, index = lane
    return f"{kind[0]}{index}"


def show_words(words):
    """Return the words with spaces between, or `none` if there is none."""
    return " ".join(words) if len(words) > 0 else "none"


def show_transit(net):
    """Return how many things are on their way in the lanes."""
    words = []
    for lane, numbers, is_closing in net.on_the_way():
        count = len(numbers) + (1 if is_closing else 0)
        words.append(f"{show_lane(lane)}={count}")
    return show_words(words)


def show_waits(net, merger):
    """Return the exhausted inputs of the merger."""
    return show_words([show_lane(lane) for lane in net.waits_for(merger)])


def show_certain(net):
    """Return what is certain of the result of all numbers that were put."""
    family, unclosed = net.family_so_far()
    return show_queue(certain_beginning(family, unclosed))


def answer_of(net, command):
    """Run a command that needs a net; return its result."""
    match command:
        case ["put", source, number]:
            net.put_number(source, number)
        case ["close", source]:
            net.close_source(source)
        case ["undo"]:
            net.undo_last()
        case ["arrive", lane]:
            return show_queue(net.arrive_from(lane))
        case ["settle"]:
            return show_queue(net.settle_all())
        case ["result"]:
            return show_queue(net.result_so_far())
        case ["transit"]:
            return show_transit(net)
        case ["waits", merger]:
            return show_waits(net, merger)
        case ["held", merger]:
            return show_queue(net.held_at(merger))
        case ["certain"]:
            return show_certain(net)
        case ["finished"]:
            return "yes" if net.is_finished() else "no"
    return "ok"


class Desk:
    """A desk with one net, at first none."""

    def __init__(self):
        self._net = None

    def execute(self, row):
        """Run one command and return its result."""
        first, values = read_command(row)
        if first == "net":
            self._net = Net(values[0])
            return "ok"
        if self._net is None:
            raise NoNet("there is no net yet")
        return answer_of(self._net, [first, *values])
