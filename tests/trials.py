"""What the tests compare with: everything by trial, with the worlds alone."""

import itertools
import random

from cutweave.nets import Net
from cutweave.worlds import done, owner, possible, start

# Two processes that send to each other, so that rows can wait for one another.
PAIR = Net(
    (("p", 1), ("q", 1)),
    (("c", 0, 1, "order"), ("d", 1, 0, "loose lossy")),
    (
        (0, 0, ("send", 0, 1), 0), (0, 0, ("take", 1, 2), 0), (0, 0, ("do",), 0),
        (1, 0, ("send", 1, 2), 0), (1, 0, ("take", 0, 1), 0), (1, 0, ("do",), 0),
    ),
)

# Three processes, channels of all four kinds, and one that has no channels.
MIXED = Net(
    (("a", 2), ("b", 2), ("c", 1), ("idle", 2)),
    (("ab", 0, 1, "order"), ("bc", 1, 2, "loose"), ("ca", 2, 0, "order lossy"), ("ba", 1, 0, "loose lossy")),
    (
        (0, 0, ("send", 0, 1), 0), (0, 0, ("send", 0, 2), 1), (0, 1, ("take", 2, 3), 0), (0, 0, ("take", 3, 4), 0),
        (1, 0, ("take", 0, 1), 1), (1, 0, ("take", 0, 2), 0), (1, 1, ("send", 1, 5), 0), (1, 1, ("send", 3, 4), 1),
        (2, 0, ("take", 1, 5), 0), (2, 0, ("send", 2, 3), 0), (3, 0, ("do",), 1), (3, 1, ("do",), 0),
    ),
)


def random_run(net, chance, most):
    """A run of at most so many deeds, as chance has it."""
    world, deeds = start(net), []
    while len(deeds) < most and possible(net, world):
        # A rule is chosen first, so that one with many messages is not chosen all the time.
        can = possible(net, world)
        word = chance.choice(sorted({deed[:2] for deed in can}))
        deeds.append(chance.choice([deed for deed in can if deed[:2] == word]))
        world = done(net, world, deeds[-1])
    return tuple(deeds)


def world_behind(net, deeds):
    """The world behind the deeds, done one behind the other."""
    world = start(net)
    for deed in deeds:
        world = done(net, world, deed)
    return world


def split(net, deeds):
    """For each process its deeds."""
    return tuple(tuple(deed for deed in deeds if owner(net, deed) == process) for process in range(len(net.processes)))


def runs_with(net, told, most=None):
    """All runs with this history (at least so many of them, if there are), by trying each deed at each place."""
    found = []
    waiting = [((), start(net), (0,) * len(told))]
    while waiting and (most is None or len(found) < most):
        run, world, counts = waiting.pop()
        if len(run) == sum(map(len, told)):
            found.append(run)
        for deed in possible(net, world):
            process = owner(net, deed)
            at = counts[process]
            if at < len(told[process]) and told[process][at] == deed:
                after = (*counts[:process], at + 1, *counts[process + 1:])
                waiting.append(((*run, deed), done(net, world, deed), after))
    return found


def events(told):
    return [(process, at) for process, row in enumerate(told) for at in range(len(row))]


def message(net, deed):
    """The message that the deed takes or loses, or None."""
    if deed[0] == "lose":
        return deed[1:]
    return (net.rules[deed[1]][2][1], deed[2]) if deed[0] == "take" else None


def send_events(net, told):
    """For each message that is sent the event that sends it."""
    found = {}
    for process, row in enumerate(told):
        for at, deed in enumerate(row):
            if deed[0] == "act" and net.rules[deed[1]][2][0] == "send":
                channel = net.rules[deed[1]][2][1]
                found[channel, len([1 for told_channel, _ in found if told_channel == channel])] = (process, at)
    return found


def pairs_ahead(net, told):
    """All pairs of events of which the first is ahead of the second, by closing over the three rules."""
    sends = send_events(net, told)
    pairs = {((process, at), (process, at + 1)) for process, row in enumerate(told) for at in range(len(row) - 1)}
    for process, at in events(told):
        taken = message(net, told[process][at])
        if taken is not None:
            pairs.add((sends[taken], (process, at)))
    while True:
        more = {(one, other) for one, middle in pairs for also, other in pairs if also == middle} - pairs
        if not more:
            return pairs
        pairs |= more


def all_rows(told):
    """All rows of numbers from none to all events of each process."""
    return list(itertools.product(*[range(len(row) + 1) for row in told]))


def consistent_rows(net, told):
    """All consistent cuts, as the document says what they are, in rising sequence."""
    pairs = pairs_ahead(net, told)
    return [cut for cut in all_rows(told)
            if all(one[1] < cut[one[0]] for one, other in pairs if other[1] < cut[other[0]])]


def exchanged(net, run):
    """The runs that one exchange of neighbours of unlike processes leads to, no message being exchanged with its send."""
    for at in range(len(run) - 1):
        one, other = run[at], run[at + 1]
        if owner(net, one) != owner(net, other):
            told = split(net, run[:at + 1])
            last = (owner(net, one), len(told[owner(net, one)]) - 1)
            if send_events(net, told).get(message(net, other)) != last:
                yield (*run[:at], other, one, *run[at + 2:])


def random_histories(nets, most, seeds):
    """For each of so many seeds, for each net: the net, and the history of a run of at most so many deeds."""
    for seed in range(seeds):
        for net in nets:
            yield net, split(net, random_run(net, random.Random(seed), most))


def owners(net, run):
    return [owner(net, deed) for deed in run]


def facts(world):
    """Claims that hold in the world, each of one process or channel."""
    states, _, present = world
    return ([("state", process, state) for process, state in enumerate(states)]
            + [("count", channel, "=", len(row)) for channel, row in enumerate(present)]
            + [("tokens", channel, row[0][1], ">", 0) for channel, row in enumerate(present) if row])


def near_claim(net, told, chance):
    """A claim that holds at some consistent cut of the history, and at few others."""
    claim = None
    for _ in range(chance.choice((1, 1, 2, 3))):
        run = some_run(net, told, chance)
        known = facts(world_behind(net, run[:chance.randrange(len(run) + 1)]))
        part = known[0]
        for fact in chance.sample(known, min(len(known), chance.choice((1, 2, 2, 3, 4)))):
            part = ("and", part, fact) if chance.random() < 0.9 else fact
        claim = part if claim is None else ("or", claim, part)
    return claim


def some_run(net, told, chance):
    """Some run with this history, as chance has it."""
    run, counts, world = [], [0] * len(told), start(net)
    while len(run) < sum(map(len, told)):
        process = chance.choice([at for at, row in enumerate(told) if counts[at] < len(row)
                                 and row[counts[at]] in possible(net, world)])
        run.append(told[process][counts[process]])
        counts[process] += 1
        world = done(net, world, run[-1])
    return tuple(run)


def random_checkpoints(told, chance):
    """For each process 0, and some more of its numbers."""
    return tuple(tuple(sorted({0, *chance.sample(range(len(row) + 1), chance.randrange(min(4, len(row) + 1) + 1) if row else 0)}))
                 for row in told)


def random_failed(told, chance):
    """Some processes, in any sequence."""
    return tuple(chance.sample(range(len(told)), chance.randrange(len(told) + 1)))


def greatest(cuts):
    """The one of the cuts that is nowhere less than any other one."""
    top = tuple(map(max, zip(*cuts)))
    assert top in cuts
    return top


def gone_events(net, told):
    """For each message that is taken or lost the event by which it goes."""
    return {message(net, deed): (process, at) for process, row in enumerate(told) for at, deed in enumerate(row)
            if message(net, deed) is not None}


def tokens_of(net, told):
    """For each message that is sent its token."""
    return {name: net.rules[told[process][at][1]][2][2] for name, (process, at) in send_events(net, told).items()}


def random_net(chance, kinds=("order", "loose", "order lossy", "loose lossy"), keeps=None):
    """A net as chance has it; keeps tells, if given, of a rule whether it may be in it."""
    processes = tuple((name, chance.randrange(1, 4)) for name in ("p", "q", "r", "s", "t")[:chance.randrange(2, 5)])
    pairs = [pair for pair in itertools.permutations(range(len(processes)), 2)]
    channels = tuple((name, *chance.choice(pairs), chance.choice(kinds)) for name in ("c", "d", "e", "f")[:chance.randrange(1, 5)])
    rules = []
    for _ in range(300):
        channel = chance.randrange(len(channels))
        act = chance.choice((("send", channel, chance.randrange(3)), ("take", channel, chance.randrange(3)), ("do",)))
        process = {"send": channels[channel][1], "take": channels[channel][2]}.get(act[0], chance.randrange(len(processes)))
        state, then = chance.randrange(processes[process][1]), chance.randrange(processes[process][1])
        rule = (process, state, act, then)
        if len(rules) < 16 and (keeps is None or keeps(rule)):
            rules.append(rule)
    return Net(processes, channels, tuple(rules))
