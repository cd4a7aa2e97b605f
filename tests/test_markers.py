"""Snapshots by markers: points [1] and [18] to [20]."""

import random
import unittest

import samples
import trials
from cutweave.cuts import is_cut, world_at
from cutweave.errors import BadStep, BadValue
from cutweave.histories import history
from cutweave.markers import marked
from cutweave.nets import Net
from cutweave.worlds import done, possible, start

# p and q send to each other, token 1 and 2; r is given tokens by q, and has no outgoing channel.
TRIO = Net(
    (("p", 1), ("q", 1), ("r", 1)),
    (("pq", 0, 1, "order"), ("qp", 1, 0, "order"), ("qr", 1, 2, "order")),
    (
        (0, 0, ("send", 0, 1), 0), (0, 0, ("take", 1, 2), 0), (0, 0, ("do",), 0),
        (1, 0, ("send", 1, 2), 0), (1, 0, ("take", 0, 1), 0), (1, 0, ("send", 2, 3), 0),
        (2, 0, ("take", 2, 3), 0), (2, 0, ("do",), 0),
    ),
)
PQ, QP, QR = 0, 1, 2
SEND_PQ, SEND_QP, SEND_QR = ("act", 0), ("act", 3), ("act", 5)

# Four processes in a ring with two channels from a to b, so that markers come to one process over several of them.
KNOT = Net(
    (("a", 1), ("b", 1), ("c", 1), ("d", 1)),
    (("ab", 0, 1, "order"), ("also", 0, 1, "order"), ("bc", 1, 2, "order"), ("cd", 2, 3, "order"), ("da", 3, 0, "order"),
     ("ca", 2, 0, "order")),
    tuple((giver, 0, ("send", channel, channel), 0) for channel, giver in enumerate((0, 0, 1, 2, 3, 2)))
    + tuple((taker, 0, ("take", channel, channel), 0) for channel, taker in enumerate((1, 1, 2, 3, 0, 0))),
)

# i and j have no channels between them.
APART = Net((("i", 1), ("j", 1)), (), ((0, 0, ("do",), 0), (1, 0, ("do",), 0)))
NETS = (TRIO, KNOT, APART)


def cut_of(told, s):
    return [cut for number, cut, _, _ in told[1] if number == s][0]


class Model:
    """The document's words done by queues in which messages and markers stand one behind the other."""

    def __init__(self, net):
        self.net = net
        self.world = start(net)
        self.deeds = []
        self.queues = [[] for _ in net.channels]
        self.log = []

    def owners(self):
        return [trials.owner(self.net, deed) for deed in self.deeds]

    def can(self, happening):
        if happening[0] == "begin":
            return ("record", *happening[1:]) not in [entry[:3] for entry in self.log]
        if happening[0] == "mark":
            return self.queues[happening[1]][:1] != [] and self.queues[happening[1]][0][0] == "marker"
        if happening not in possible(self.net, self.world) or len(self.deeds) == 60:
            return False
        message = trials.message(self.net, happening)
        return message is None or self.queues[message[0]][0][:2] == ("message", message[1])

    def do(self, happening):
        if happening[0] == "begin":
            self.record(*happening[1:])
        elif happening[0] == "mark":
            _, s = self.queues[happening[1]].pop(0)
            if self.can(("begin", self.net.channels[happening[1]][2], s)):
                self.record(self.net.channels[happening[1]][2], s)
            self.log.append(("arrive", happening[1], s))
        else:
            message = trials.message(self.net, happening)
            if message is not None:
                self.log.append(("take", message[0], self.queues[message[0]].pop(0)[1:]))
            before = self.world[1]
            self.world = done(self.net, self.world, happening)
            for channel, many in enumerate(before):
                if self.world[1][channel] > many:
                    self.queues[channel].append(("message", *self.world[2][channel][-1]))
            self.deeds.append(happening)

    def record(self, process, s):
        self.log.append(("record", process, s, self.owners().count(process)))
        for channel, row in enumerate(self.net.channels):
            if row[1] == process:
                self.queues[channel].append(("marker", s))

    def under_way(self, s, channel):
        taker = self.net.channels[channel][2]
        since = [at for at, entry in enumerate(self.log) if entry[:3] == ("record", taker, s)]
        until = [at for at, entry in enumerate(self.log) if entry == ("arrive", channel, s)] or [len(self.log)]
        return tuple(entry[2] for entry in self.log[since[0]:until[0]] if entry[:2] == ("take", channel)) if since else ()

    def told(self):
        snapshots = []
        processes, channels = range(len(self.net.processes)), range(len(self.net.channels))
        for s in range(4):
            records = {entry[1]: entry[3] for entry in self.log if entry[0] == "record" and entry[2] == s}
            if records:
                finished = len(records) == len(processes) and all(("arrive", channel, s) in self.log for channel in channels)
                snapshots.append((s, tuple(records.get(process) for process in processes),
                                  tuple(self.under_way(s, channel) for channel in channels), finished))
        return tuple(self.deeds), tuple(snapshots)

    def conceivable(self):
        return (*possible(self.net, self.world), *[("mark", channel) for channel in range(len(self.queues))],
                *[("begin", process, s) for process in range(len(self.net.processes)) for s in range(4)])


def random_happenings(net, chance, most):
    """Happenings that can be, begins among them more seldom than marks and deeds."""
    model, told = Model(net), []
    for _ in range(most):
        can = [happening for happening in model.conceivable() if model.can(happening)]
        weights = [1 if happening[0] == "begin" else 4 for happening in can]
        if not can:
            break
        told.append(chance.choices(can, weights)[0])
        model.do(told[-1])
    return tuple(told)


class MarkedCase(samples.RaisesCase):

    def assert_stops(self, net, happenings, at):
        self.assert_raises(BadStep, at, marked, net, happenings)


class Records(MarkedCase):

    def test_nothing_begun(self):
        self.assertEqual(marked(TRIO, ()), ((), ()))
        self.assertEqual(marked(TRIO, [SEND_PQ, ("take", 4, 0)]), ((SEND_PQ, ("take", 4, 0)), ()))
        self.assertEqual(marked(samples.LONE, ()), ((), ()))

    def test_begin_by_each_process(self):
        nothing = ((), (), ())
        for process in range(3):
            cut = tuple(0 if at == process else None for at in range(3))
            self.assertEqual(marked(TRIO, (("begin", process, 0),)), ((), ((0, cut, nothing, False),)))

    def test_how_many_deeds_were_done_so_far(self):
        told = marked(TRIO, (SEND_PQ, SEND_QP, ("act", 2), ("begin", 0, 1), SEND_PQ, ("begin", 2, 1)))
        self.assertEqual(cut_of(told, 1), (2, None, 0))
        self.assertEqual(told[0], (SEND_PQ, SEND_QP, ("act", 2), SEND_PQ))

    def test_snapshots_0_to_3_ascending(self):
        told = marked(TRIO, (("begin", 0, 3), SEND_PQ, ("begin", 1, 0), ("begin", 0, 2), ("begin", 0, 1)))
        self.assertEqual([row[:2] for row in told[1]], [(0, (None, 0, None)), (1, (1, None, None)), (2, (1, None, None)),
                                                       (3, (0, None, None))])

    def test_begun_twice(self):
        self.assert_stops(TRIO, (("begin", 0, 2), ("begin", 0, 2)), 1)
        self.assert_stops(TRIO, (("begin", 0, 2), SEND_PQ, ("begin", 1, 2), ("begin", 0, 1), ("begin", 0, 2)), 4)
        self.assert_stops(TRIO, (("begin", 0, 2), ("mark", PQ), ("begin", 1, 2)), 2)
        self.assertEqual(cut_of(marked(TRIO, (("begin", 0, 2), ("begin", 1, 2))), 2), (0, 0, None))

    def test_begins_that_can_not_be(self):
        for s in (4, 5, 10 ** 400, -1, -4, None, "0", True, False, (0,), samples.DEEP):
            self.assert_stops(TRIO, (SEND_PQ, ("begin", 0, s)), 1)
        for process in (3, 4, 10 ** 400, -1, -3, None, "p", True, False, (0,), samples.DEEP):
            self.assert_stops(TRIO, (SEND_PQ, ("begin", process, 0)), 1)
        for wrong in (("begin",), ("begin", 0), ("begin", 0, 0, 0), ("Begin", 0, 0), ("begin ", 0, 0), "begin 0 0"):
            self.assert_stops(TRIO, (wrong,), 0)


class Marks(MarkedCase):

    def test_an_arrival_makes_the_taker_record(self):
        told = marked(TRIO, (SEND_QP, ("begin", 0, 0), ("mark", PQ)))
        self.assertEqual(cut_of(told, 0), (0, 1, None))
        told = marked(TRIO, (SEND_QP, ("begin", 0, 0), ("mark", PQ), ("mark", QR)))
        self.assertEqual(cut_of(told, 0), (0, 1, 0))
        # The taker puts its own markers behind what it sent.
        self.assert_stops(TRIO, (SEND_QP, ("begin", 0, 0), ("mark", PQ), ("mark", QP)), 3)
        self.assertEqual(marked(TRIO, (SEND_QP, ("begin", 0, 0), ("mark", PQ), ("take", 1, 0), ("mark", QP), ("mark", QR)))[1],
                         ((0, (0, 1, 0), ((), ((0, 2),), ()), True),))

    def test_an_arrival_that_only_closes_the_channel(self):
        told = marked(TRIO, (SEND_PQ, ("begin", 0, 0), ("begin", 1, 0), SEND_QP, ("mark", QP), ("take", 4, 0), ("mark", PQ)))
        self.assertEqual(told[1], ((0, (1, 0, None), (((0, 1),), (), ()), False),))
        # It puts no further markers.
        self.assert_stops(TRIO, (("begin", 0, 0), ("begin", 1, 0), ("mark", QP), ("mark", PQ), ("mark", PQ)), 4)
        self.assert_stops(TRIO, (("begin", 0, 0), ("begin", 1, 0), ("mark", QP), ("mark", PQ), ("mark", QP)), 4)

    def test_a_take_with_a_marker_ahead_of_its_message(self):
        self.assert_stops(TRIO, (("begin", 0, 0), SEND_PQ, ("take", 4, 0)), 2)
        self.assert_stops(TRIO, (SEND_PQ, ("begin", 0, 0), SEND_PQ, ("take", 4, 0), ("take", 4, 1)), 4)
        self.assertEqual(len(marked(TRIO, (("begin", 0, 0), SEND_PQ, ("mark", PQ), ("take", 4, 0)))[0]), 2)

    def test_a_message_ahead_of_the_marker(self):
        self.assert_stops(TRIO, (SEND_PQ, ("begin", 0, 0), ("mark", PQ)), 2)
        self.assertEqual(cut_of(marked(TRIO, (SEND_PQ, ("begin", 0, 0), ("take", 4, 0), ("mark", PQ))), 0), (1, 1, None))

    def test_no_marker_is_first(self):
        self.assert_stops(TRIO, (("mark", PQ),), 0)
        self.assert_stops(TRIO, (SEND_PQ, ("mark", PQ)), 1)
        self.assert_stops(TRIO, (("begin", 0, 0), ("mark", PQ), ("mark", PQ)), 2)
        self.assert_stops(TRIO, (("begin", 0, 0), ("mark", QR)), 1)
        self.assert_stops(TRIO, (("begin", 2, 0), ("mark", QR)), 1)

    def test_channels_that_are_not_there(self):
        for channel in (3, 8, 10 ** 400, -1, -3, None, "pq", "0", True, False, (0,), samples.DEEP):
            self.assert_stops(TRIO, (("begin", 0, 0), ("begin", 1, 0), ("mark", channel)), 2)
        for wrong in (("mark",), ("mark", 0, 0), ("Mark", 0), "mark 0"):
            self.assert_stops(TRIO, (("begin", 0, 0), wrong), 1)
        self.assert_stops(APART, (("begin", 0, 0), ("mark", 0)), 1)

    def test_markers_of_several_snapshots_one_behind_the_other(self):
        happenings = (("begin", 0, 3), SEND_PQ, ("begin", 0, 1), ("begin", 0, 0), ("mark", PQ), ("take", 4, 0), ("mark", PQ),
                      ("mark", PQ))
        told = marked(TRIO, happenings)
        self.assertEqual([row[:2] for row in told[1]], [(0, (1, 1, None)), (1, (1, 1, None)), (3, (0, 0, None))])
        told = marked(TRIO, happenings[:7])
        self.assertEqual([row[:2] for row in told[1]], [(0, (1, None, None)), (1, (1, 1, None)), (3, (0, 0, None))])
        self.assert_stops(TRIO, (*happenings[:5], ("mark", PQ)), 5)

    def test_each_outgoing_channel_bears_a_marker(self):
        told = marked(TRIO, (("begin", 1, 0), ("mark", QR), ("mark", QP), ("mark", PQ)))
        self.assertEqual(told[1], ((0, (0, 0, 0), ((), (), ()), True),))
        told = marked(KNOT, (("begin", 0, 0), ("mark", 0), ("mark", 1), ("mark", 2), ("mark", 3), ("mark", 4), ("mark", 5)))
        self.assertEqual(told[1], ((0, (0, 0, 0, 0), ((),) * 6, True),))


class UnderWay(MarkedCase):

    def test_taken_between_the_record_and_the_arrival(self):
        happenings = (SEND_PQ, SEND_PQ, SEND_PQ, ("take", 4, 0), ("begin", 1, 0), ("take", 4, 1), ("begin", 0, 0), SEND_PQ,
                      ("take", 4, 2), ("mark", PQ), ("take", 4, 3))
        self.assertEqual(marked(TRIO, happenings)[1], ((0, (3, 1, None), (((1, 1), (2, 1)), (), ()), False),))
        self.assertEqual(marked(TRIO, happenings[:7])[1], ((0, (3, 1, None), (((1, 1),), (), ()), False),))

    def test_up_to_the_end_as_long_as_the_marker_did_not_come(self):
        happenings = (("begin", 1, 2), SEND_PQ, ("take", 4, 0), SEND_PQ, ("take", 4, 1))
        self.assertEqual(marked(TRIO, happenings)[1], ((2, (None, 0, None), (((0, 1), (1, 1)), (), ()), False),))

    def test_nothing_where_the_taker_did_not_record(self):
        happenings = (("begin", 0, 2), SEND_QR, ("take", 6, 0), SEND_QP, ("take", 1, 0))
        self.assertEqual(marked(TRIO, happenings)[1], ((2, (0, None, None), ((), ((0, 2),), ()), False),))

    def test_each_snapshot_on_its_own(self):
        happenings = (SEND_PQ, SEND_PQ, ("begin", 1, 0), ("take", 4, 0), ("begin", 1, 3), ("take", 4, 1))
        self.assertEqual(marked(TRIO, happenings)[1], (
            (0, (None, 0, None), (((0, 1), (1, 1)), (), ()), False), (3, (None, 1, None), (((1, 1),), (), ()), False)))


class Finished(MarkedCase):

    def test_a_net_without_channels(self):
        self.assertEqual(marked(APART, (("act", 0), ("begin", 0, 0)))[1], ((0, (1, None), (), False),))
        self.assertEqual(marked(APART, (("act", 0), ("begin", 0, 0), ("act", 0), ("begin", 1, 0)))[1], ((0, (1, 0), (), True),))
        self.assertEqual(marked(samples.LONE, (("begin", 0, 3),)), ((), ((3, (0,), (), True),)))

    def test_all_recorded_and_a_marker_still_to_come(self):
        happenings = (("begin", 0, 0), ("begin", 1, 0), ("begin", 2, 0), ("mark", PQ), ("mark", QP), ("mark", QR))
        for many in range(1, 7):
            self.assertIs(marked(TRIO, happenings[:many])[1][0][3], many == 6)

    def test_a_process_that_no_marker_comes_to(self):
        net = Net((("p", 1), ("q", 1), ("r", 1)), (("pq", 0, 1, "order"),), ())
        self.assertEqual(marked(net, (("begin", 0, 0), ("mark", 0)))[1], ((0, (0, 0, None), ((),), False),))
        self.assertEqual(marked(net, (("begin", 0, 0), ("mark", 0), ("begin", 2, 0)))[1], ((0, (0, 0, 0), ((),), True),))


class Limits(MarkedCase):

    def test_60_deeds_and_a_61st(self):
        deeds = [SEND_PQ] * 60
        others = [("begin", process, s) for process in range(3) for s in range(4)]
        self.assertEqual(len(marked(TRIO, deeds + others)[0]), 60)
        self.assertEqual(len(marked(TRIO, deeds[:30] + others + deeds[30:])[0]), 60)
        for last in (SEND_PQ, ("act", 2), ("take", 4, 0), ("act", 99)):
            self.assert_stops(TRIO, deeds + [last], 60)
            self.assert_stops(TRIO, others + deeds + [last], 72)
            self.assert_stops(TRIO, deeds + others + [last, None], 72)
        marks = [("mark", QP)] * 4 + [("mark", QR)] * 4
        self.assertEqual(len(marked(TRIO, others + [SEND_PQ] * 60 + marks)[0]), 60)
        self.assert_stops(TRIO, others + [SEND_PQ] * 60 + marks + [("mark", QP)], 80)


class Wrong(MarkedCase):

    def test_channels_that_are_not_in_order(self):
        for kind in ("loose", "order lossy", "loose lossy"):
            net = Net((("p", 1), ("q", 1)), (("c", 0, 1, "order"), ("d", 0, 1, kind)), ())
            for happenings in ((), (("begin", 0, 0),), (("act", 0),), *samples.ODD_VALUES):
                self.assert_raises(BadValue, 0, marked, net, happenings)
        for net in (samples.FOUR, samples.RING, trials.MIXED):
            self.assert_raises(BadValue, 0, marked, net, ())

    def test_deeds_that_can_not_be_done(self):
        for wrong in (("act", 1), ("act", 8), ("act", -1), ("take", 4, 0), ("take", 0, 0), ("lose", 0, 0), ("take", 4, -1)):
            self.assert_stops(TRIO, (SEND_QP, ("begin", 1, 0), wrong, SEND_QP), 2)

    def test_values_that_are_no_happenings(self):
        for wrong in samples.ODD_VALUES:
            self.assert_stops(TRIO, (SEND_PQ, ("begin", 0, 0), wrong), 2)
            self.assert_stops(TRIO, [wrong], 0)

    def test_what_is_no_sequence(self):
        for wrong in (None, 0, -1, 10 ** 400, "", "begin", "mark 0", True):
            self.assert_stops(TRIO, wrong, 0)

    def test_lists_and_names(self):
        happenings = [["act", 0], ["begin", 0, 0], ["take", 4, 0], ["mark", 0]]
        told = marked(happenings=happenings, net=TRIO)
        self.assertEqual(told, marked(TRIO, tuple(map(tuple, happenings))))
        self.assertEqual(told, (((("act", 0)), ("take", 4, 0)), ((0, (1, 1, None), ((), (), ()), False),)))
        self.assertEqual(happenings, [["act", 0], ["begin", 0, 0], ["take", 4, 0], ["mark", 0]])
        happenings[0][1] = 2
        self.assertEqual(told[0], (("act", 0), ("take", 4, 0)))


class AgainstTheModel(MarkedCase):

    def all_happenings(self):
        for seed in range(60):
            for net in NETS:
                chance = random.Random(seed)
                yield net, random_happenings(net, chance, chance.randrange(10, 90))

    def test_random_happenings(self):
        seen = {True: 0, False: 0}
        for net, happenings in self.all_happenings():
            model = Model(net)
            for happening in happenings:
                model.do(happening)
            told = marked(net, happenings)
            self.assertEqual(told, model.told())
            for snapshot in told[1]:
                seen[snapshot[3]] += 1
        self.assertGreater(min(seen.values()), 50)

    def test_what_can_not_be(self):
        for seed in range(12):
            for net in NETS:
                happenings = random_happenings(net, random.Random(seed), 40)
                model = Model(net)
                for at, happening in enumerate(happenings):
                    for other in model.conceivable():
                        if not model.can(other):
                            self.assert_stops(net, (*happenings[:at], other, None), at)
                    model.do(happening)

    def test_what_a_finished_snapshot_tells(self):
        for net, happenings in self.all_happenings():
            deeds, snapshots = marked(net, happenings)
            told = history(net, deeds)
            for s, cut, under_way, finished in snapshots:
                if finished:
                    self.assertIs(is_cut(net, told, cut), True)
                    self.assertEqual(world_at(net, told, cut)[2], under_way)
                    first, last = self.span(net, happenings, s)
                    for process, many in enumerate(cut):
                        self.assertLessEqual(first[process], many)
                        self.assertLessEqual(many, last[process])

    def span(self, net, happenings, s):
        """How many deeds each process had done when s was first begun, and when it was finished."""
        spans = []
        for at in range(len(happenings) + 1):
            deeds, snapshots = marked(net, happenings[:at])
            states = [row[3] for row in snapshots if row[0] == s]
            if len(spans) < len(states) + sum(states):
                spans.append(tuple(map(len, history(net, deeds))))
        return spans


if __name__ == "__main__":
    unittest.main()
