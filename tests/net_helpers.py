"""A net written down as point 22 says, and ways to compare nets of the package with it."""

import copy

from leastheads import errors


def is_whole(value):
    """Whether a value is an integer and not True or False."""
    return isinstance(value, int) and not isinstance(value, bool)


class Model:
    """A net as point 22 says, step by step; it keeps a whole copy of itself for each call."""

    def __init__(self, plan):
        self.inputs = []
        self.begin(plan)
        self.lanes = [lane for lanes in self.inputs for lane in lanes]
        self.now = {
            "way": {lane: [] for lane in self.lanes},
            "there": {lane: [] for lane in self.lanes},
            "marked": [],
            "result": [],
            "finished": False,
            "family": {lane[1]: [] for lane in self.lanes if lane[0] == "source"},
            "closed": [],
        }
        self.before = []

    def begin(self, part):
        """Number a list of the plan and those in it; return its number."""
        number = len(self.inputs)
        self.inputs.append([])
        for inner in part:
            lane = ("source", inner) if is_whole(inner) else ("merger", self.begin(inner))
            self.inputs[number].append(lane)
        return number

    def keep(self):
        """Remember what the net is, for undo_last."""
        self.before.append(copy.deepcopy(self.now))

    def check_source(self, source):
        """Raise UnknownSource if there is no such source."""
        if not is_whole(source) or source not in self.now["family"]:
            raise errors.UnknownSource("")

    def put_number(self, source, number):
        self.check_source(source)
        if not is_whole(number):
            raise errors.InvalidNumber("")
        if source in self.now["closed"]:
            raise errors.ClosedSource("")
        if any(number in queue for queue in self.now["family"].values()):
            raise errors.UsedNumber("")
        self.keep()
        self.now["family"][source].append(number)
        self.now["way"][("source", source)].append(number)

    def close_source(self, source):
        self.check_source(source)
        if source in self.now["closed"]:
            raise errors.ClosedSource("")
        self.keep()
        self.now["closed"].append(source)
        self.now["way"][("source", source)].append("mark")

    def arrive_from(self, lane):
        if not (isinstance(lane, tuple) and [type(part) for part in lane] == [str, int] and lane in self.lanes):
            raise errors.UnknownLane("")
        if not self.now["way"][lane]:
            raise errors.NothingOnTheWay("")
        self.keep()
        many = len(self.now["result"])
        self.arrive(lane)
        return self.now["result"][many:]

    def settle_all(self):
        self.keep()
        many = len(self.now["result"])
        while any(self.now["way"].values()):
            self.arrive(next(lane for lane in self.lanes if self.now["way"][lane]))
        return self.now["result"][many:]

    def arrive(self, lane):
        """Let the first thing in the lane arrive, and the merger pass on what it can."""
        thing = self.now["way"][lane].pop(0)
        if thing == "mark":
            self.now["marked"].append(lane)
        else:
            self.now["there"][lane].append(thing)
        merger = next(number for number, lanes in enumerate(self.inputs) if lane in lanes)
        while not self.waits_for(merger) and self.held_at(merger):
            heads = [self.now["there"][one][0] for one in self.inputs[merger] if self.now["there"][one]]
            for one in self.inputs[merger]:
                if self.now["there"][one][:1] == [min(heads)]:
                    self.now["there"][one].pop(0)
            self.leave(merger, min(heads))
        if all(one in self.now["marked"] for one in self.inputs[merger]):
            self.leave(merger, "mark")

    def leave(self, merger, thing):
        """Let a thing enter the lane of the merger, or the result."""
        if merger > 0:
            self.now["way"][("merger", merger)].append(thing)
        elif thing == "mark":
            self.now["finished"] = True
        else:
            self.now["result"].append(thing)

    def result_so_far(self):
        return list(self.now["result"])

    def on_the_way(self):
        rows = []
        for lane in sorted(self.lanes, key=lambda lane: (["source", "merger"].index(lane[0]), lane[1])):
            things = self.now["way"][lane]
            if things:
                rows.append((lane, [thing for thing in things if thing != "mark"], things[-1] == "mark"))
        return rows

    def waits_for(self, merger):
        if not is_whole(merger) or not 0 <= merger < len(self.inputs):
            raise errors.UnknownMerger("")
        return [
            lane for lane in self.inputs[merger]
            if not self.now["there"][lane] and lane not in self.now["marked"]
        ]

    def held_at(self, merger):
        self.waits_for(merger)
        return sorted(number for lane in self.inputs[merger] for number in self.now["there"][lane])

    def is_finished(self):
        return self.now["finished"]

    def family_so_far(self):
        family = self.now["family"]
        return (
            [list(family[source]) for source in sorted(family)],
            [source for source in sorted(family) if source not in self.now["closed"]],
        )

    def undo_last(self):
        if not self.before:
            raise errors.NothingToUndo("")
        self.now = self.before.pop()


def count_mergers(plan):
    """The number of lists in a plan."""
    return 1 + sum(count_mergers(part) for part in plan if isinstance(part, list))


def view_of(net, mergers):
    """All that a net with so many mergers tells of itself."""
    return [
        net.result_so_far(), net.on_the_way(), net.is_finished(), net.family_so_far(),
        [net.waits_for(merger) for merger in range(mergers)],
        [net.held_at(merger) for merger in range(mergers)],
    ]


def told(net, call):
    """What a call of a net returns, or the class of the error that it raises.

    A call is the name of the method and its arguments.
    """
    name, *arguments = call
    try:
        return getattr(net, name)(*arguments)
    except errors.HeadsError as error:
        return type(error)


def some_call(rng, many, mergers, numbers):
    """A call that may change a net with so many sources and mergers; often an error."""
    source, merger = rng.randrange(many), rng.randrange(mergers)
    return rng.choice([
        ("put_number", source, rng.choice(numbers)), ("put_number", source, rng.choice(numbers)),
        ("put_number", source, rng.choice(numbers)), ("put_number", source, rng.choice(numbers)),
        ("arrive_from", ("source", source)), ("arrive_from", ("source", source)),
        ("arrive_from", ("merger", merger)), ("arrive_from", ("merger", merger)),
        ("close_source", source) if rng.random() < 0.5 else ("undo_last",),
        ("settle_all",) if rng.random() < 0.3 else ("undo_last",),
    ])


def changing_call(rng, net, unused):
    """A call of this net that raises no error: a put, a closing, an arrival or settle_all.

    A number that is put is taken from the end of the list of unused ones.
    """
    moving = [lane for lane, _, _ in net.on_the_way()]
    unclosed = net.family_so_far()[1]
    if unclosed and rng.random() < 0.03:
        return ("close_source", rng.choice(unclosed))
    if unclosed and unused and rng.random() < 0.45:
        return ("put_number", rng.choice(unclosed), unused.pop())
    if moving and rng.random() < 0.96:
        return ("arrive_from", rng.choice(moving))
    return ("settle_all",)
