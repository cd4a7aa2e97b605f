"""Snapshots by colours: points [1] and [21] to [23]."""

import random
import unittest

import samples
import trials
from cutweave.colours import coloured
from cutweave.cuts import is_cut, world_at
from cutweave.errors import BadStep
from cutweave.histories import history
from cutweave.nets import Net
from cutweave.worlds import done, possible, start

# p sends to q on channels of all four kinds, and q sends back; token 5 from p, 7 from q. r has no channels.
BOTH = Net(
    (("p", 1), ("q", 1), ("r", 1)),
    (("o", 0, 1, "order"), ("l", 0, 1, "loose"), ("ol", 0, 1, "order lossy"), ("ll", 0, 1, "loose lossy"), ("back", 1, 0, "loose")),
    tuple((0, 0, ("send", channel, 5), 0) for channel in range(4))
    + tuple((1, 0, ("take", channel, 5), 0) for channel in range(4))
    + ((1, 0, ("send", 4, 7), 0), (0, 0, ("take", 4, 7), 0), (0, 0, ("do",), 0), (2, 0, ("do",), 0)),
)
ORDER, LOOSE, ORDER_LOSSY, LOOSE_LOSSY, BACK = range(5)
NONE = ((),) * 5
NETS = (BOTH, trials.MIXED, trials.PAIR, samples.LONE)


def send(channel):
    return ("act", channel) if channel < 4 else ("act", 8)


def take(channel, k):
    return ("take", channel + 4, k) if channel < 4 else ("take", 9, k)


def lose(channel, k):
    return ("lose", channel, k)


def only(channel, *pairs):
    """For each channel of BOTH its pairs; only one has any."""
    return tuple(pairs if at == channel else () for at in range(5))


class Model:
    """Keeps each message with what it bears and when it went, and tells of the snapshots at the end."""

    def __init__(self, net):
        self.net = net
        self.world = start(net)
        self.deeds = []
        self.records = {}
        self.messages = []

    def can(self, happening):
        if happening[0] == "begin":
            return happening[1:] not in self.records
        return len(self.deeds) < 60 and happening in possible(self.net, self.world)

    def record(self, process, s):
        done_so_far = [trials.owner(self.net, deed) for deed in self.deeds].count(process)
        self.records.setdefault((process, s), (done_so_far, len(self.deeds)))

    def do(self, happening):
        if happening[0] == "begin":
            return self.record(*happening[1:])
        owner = trials.owner(self.net, happening)
        name = trials.message(self.net, happening)
        for message in self.messages:
            if (message["channel"], message["k"]) == name:
                for s in message["bears"]:
                    self.record(owner, s)
                message["gone"] = (happening[0], len(self.deeds))
        before, self.world = self.world, done(self.net, self.world, happening)
        for channel, many in enumerate(before[1]):
            if self.world[1][channel] > many:
                k, token = self.world[2][channel][-1]
                bears = [s for s in range(4) if (owner, s) in self.records]
                self.messages.append({"channel": channel, "k": k, "token": token, "bears": bears, "gone": None})
        self.deeds.append(happening)

    def rows(self, s, word):
        """For each channel the early messages that are gone so behind the record, or not gone."""
        rows = []
        for channel, row in enumerate(self.net.channels):
            record = self.records.get((row[2], s))
            pairs = []
            for message in self.messages:
                if message["channel"] == channel and s not in message["bears"] and record is not None:
                    went, when = message["gone"] or (None, 60)
                    if went == word and when >= record[1]:
                        pairs.append((message["k"], message["token"]))
            rows.append(tuple(sorted(pairs)))
        return tuple(rows)

    def told(self):
        snapshots = []
        for s in range(4):
            cut = tuple(self.records.get((process, s), (None,))[0] for process in range(len(self.net.processes)))
            if cut != (None,) * len(cut):
                snapshots.append((s, cut, self.rows(s, "take"), self.rows(s, "lose"), self.rows(s, None)))
        return tuple(self.deeds), tuple(snapshots)

    def conceivable(self):
        for process in range(len(self.net.processes)):
            yield from (("begin", process, s) for s in range(4))
        yield from possible(self.net, self.world)


def random_happenings(net, chance, most):
    model, told = Model(net), []
    for _ in range(most):
        can = [happening for happening in model.conceivable() if model.can(happening)]
        begins = [happening for happening in can if happening[0] == "begin"]
        others = [happening for happening in can if happening[0] != "begin"]
        # What goes by is chosen as often as what is sent, so that channels do not only fill.
        going = [happening for happening in others if happening[0] != "act"]
        rows = [row for row in (begins if chance.random() < 0.1 else [], going, others) if row]
        if not rows:
            break
        told.append(chance.choice(chance.choice(rows)))
        model.do(told[-1])
    return tuple(told)


class ColouredCase(samples.RaisesCase):

    def assert_stops(self, net, happenings, at):
        self.assert_raises(BadStep, at, coloured, net, happenings)

    def snapshots(self, *happenings):
        return coloured(BOTH, happenings)[1]


class Records(ColouredCase):

    def test_nothing_begun(self):
        self.assertEqual(coloured(BOTH, ()), ((), ()))
        self.assertEqual(coloured(BOTH, (send(ORDER), take(ORDER, 0))), ((send(ORDER), take(ORDER, 0)), ()))

    def test_by_a_begin(self):
        for process in range(3):
            cut = tuple(0 if at == process else None for at in range(3))
            self.assertEqual(coloured(BOTH, (("begin", process, 2),)), ((), ((2, cut, NONE, NONE, NONE),)))
        self.assertEqual(self.snapshots(send(LOOSE), ("act", 10), ("begin", 0, 0), send(LOOSE)),
                         ((0, (2, None, None), NONE, NONE, NONE),))

    def test_by_a_take_and_by_a_loss_ahead_of_the_deed(self):
        for channel in range(4):
            ways = [take(channel, 0)] + ([lose(channel, 0)] if channel > 1 else [])
            for gone in ways:
                self.assertEqual(self.snapshots(("begin", 0, 1), send(channel), gone), ((1, (0, 0, None), NONE, NONE, NONE),))
                # Of the messages back only the one behind the loss or take bears the snapshot.
                self.assertEqual(self.snapshots(("begin", 0, 1), send(channel), send(BACK), gone, send(BACK)),
                                 ((1, (0, 1, None), NONE, NONE, only(BACK, (0, 7))),))

    def test_several_at_once(self):
        told = self.snapshots(("begin", 0, 3), ("begin", 0, 0), send(LOOSE), ("begin", 0, 2), ("begin", 1, 0), send(BACK),
                              take(LOOSE, 0))
        self.assertEqual([row[:2] for row in told], [(0, (0, 0, None)), (2, (1, None, None)), (3, (0, 1, None))])
        told = self.snapshots(("begin", 0, 3), ("begin", 0, 1), send(ORDER), take(ORDER, 0))
        self.assertEqual([row[:2] for row in told], [(1, (0, 0, None)), (3, (0, 0, None))])

    def test_a_message_bears_what_its_giver_had_recorded_at_the_send(self):
        told = self.snapshots(send(LOOSE), ("begin", 0, 0), send(LOOSE), take(LOOSE, 0))
        self.assertEqual(told[0][1], (1, None, None))
        told = self.snapshots(send(LOOSE), ("begin", 0, 0), send(LOOSE), take(LOOSE, 0), take(LOOSE, 1))
        self.assertEqual(told[0][1], (1, 1, None))

    def test_what_is_recorded_by_a_take_is_borne_further(self):
        told = self.snapshots(("begin", 1, 0), send(BACK), take(BACK, 0), send(LOOSE), send(BACK), ("begin", 1, 1), take(LOOSE, 0))
        self.assertEqual(told, ((0, (0, 0, None), NONE, NONE, NONE),
                                (1, (None, 2, None), only(LOOSE, (0, 5)), NONE, NONE)))

    def test_a_second_begin(self):
        self.assert_stops(BOTH, (("begin", 0, 2), ("begin", 0, 2)), 1)
        self.assert_stops(BOTH, (("begin", 0, 2), send(LOOSE), take(LOOSE, 0), ("begin", 1, 2)), 3)
        self.assert_stops(BOTH, (("begin", 0, 2), ("begin", 1, 2), ("begin", 0, 1), ("begin", 0, 2)), 3)

    def test_begins_that_can_not_be(self):
        for s in (4, 5, 10 ** 400, -1, -4, None, "0", True, False, (0,), samples.DEEP):
            self.assert_stops(BOTH, (send(LOOSE), ("begin", 0, s)), 1)
        for process in (3, 4, 10 ** 400, -1, -3, None, "p", True, False, (0,), samples.DEEP):
            self.assert_stops(BOTH, (send(LOOSE), ("begin", process, 0)), 1)
        for wrong in (("begin",), ("begin", 0), ("begin", 0, 0, 0), ("Begin", 0, 0), "begin 0 0"):
            self.assert_stops(BOTH, (wrong,), 0)


class Early(ColouredCase):

    def test_taken_behind_the_record(self):
        for channel in range(4):
            self.assertEqual(self.snapshots(send(channel), ("begin", 1, 0), take(channel, 0)),
                             ((0, (None, 0, None), only(channel, (0, 5)), NONE, NONE),))

    def test_taken_ahead_of_the_record(self):
        self.assertEqual(self.snapshots(send(LOOSE), take(LOOSE, 0), ("begin", 1, 0)), ((0, (None, 1, None), NONE, NONE, NONE),))

    def test_lost_behind_and_ahead_of_the_record(self):
        for channel in (ORDER_LOSSY, LOOSE_LOSSY):
            self.assertEqual(self.snapshots(send(channel), ("begin", 1, 0), lose(channel, 0)),
                             ((0, (None, 0, None), NONE, only(channel, (0, 5)), NONE),))
            self.assertEqual(self.snapshots(send(channel), lose(channel, 0), ("begin", 1, 0)),
                             ((0, (None, 1, None), NONE, NONE, NONE),))

    def test_awaited(self):
        for channel in range(4):
            self.assertEqual(self.snapshots(send(channel), send(channel), ("begin", 1, 0), take(channel, 0)),
                             ((0, (None, 0, None), only(channel, (0, 5)), NONE, only(channel, (1, 5))),))

    def test_all_messages_of_a_giver_that_has_not_recorded_are_early(self):
        self.assertEqual(self.snapshots(("begin", 1, 0), send(LOOSE), send(LOOSE), take(LOOSE, 1)),
                         ((0, (None, 0, None), only(LOOSE, (1, 5)), NONE, only(LOOSE, (0, 5))),))

    def test_what_bears_the_snapshot_is_not_early(self):
        told = self.snapshots(send(LOOSE_LOSSY), ("begin", 0, 0), ("begin", 1, 0), *[send(LOOSE_LOSSY)] * 3,
                              take(LOOSE_LOSSY, 1), lose(LOOSE_LOSSY, 2))
        self.assertEqual(told, ((0, (1, 0, None), NONE, NONE, only(LOOSE_LOSSY, (0, 5))),))

    def test_a_taker_that_has_not_recorded(self):
        told = self.snapshots(send(LOOSE_LOSSY), send(LOOSE_LOSSY), send(LOOSE_LOSSY), ("begin", 0, 0), take(LOOSE_LOSSY, 0),
                              lose(LOOSE_LOSSY, 1))
        self.assertEqual(told, ((0, (3, None, None), NONE, NONE, NONE),))

    def test_ascending_though_they_went_in_another_sequence(self):
        told = self.snapshots(*[send(LOOSE_LOSSY)] * 6, ("begin", 1, 3), take(LOOSE_LOSSY, 4), lose(LOOSE_LOSSY, 3),
                              take(LOOSE_LOSSY, 0), lose(LOOSE_LOSSY, 2))
        self.assertEqual(told, ((3, (None, 0, None), only(LOOSE_LOSSY, (0, 5), (4, 5)), only(LOOSE_LOSSY, (2, 5), (3, 5)),
                                 only(LOOSE_LOSSY, (1, 5), (5, 5))),))

    def test_each_snapshot_on_its_own(self):
        told = self.snapshots(send(LOOSE), ("begin", 0, 0), send(LOOSE), ("begin", 1, 1), take(LOOSE, 1), take(LOOSE, 0))
        self.assertEqual(told, (
            (0, (1, 0, None), only(LOOSE, (0, 5)), NONE, NONE),
            (1, (None, 0, None), only(LOOSE, (0, 5), (1, 5)), NONE, NONE)))

    def test_a_cut_that_all_recorded(self):
        happenings = (send(ORDER), send(LOOSE_LOSSY), send(LOOSE_LOSSY), send(LOOSE_LOSSY), send(BACK), ("begin", 0, 0), send(ORDER),
                      take(LOOSE_LOSSY, 2), ("begin", 1, 0), ("begin", 2, 0), take(ORDER, 0), lose(LOOSE_LOSSY, 1))
        deeds, told = coloured(BOTH, happenings)
        self.assertEqual(told, ((0, (4, 2, 0), only(ORDER, (0, 5)), only(LOOSE_LOSSY, (1, 5)), (*NONE[:3], ((0, 5),), ((0, 7),))),))
        self.assertEqual(world_at(BOTH, history(BOTH, deeds), (4, 2, 0))[2],
                         (((0, 5),), (), (), ((0, 5), (1, 5)), ((0, 7),)))


class Wrong(ColouredCase):

    def test_marks_are_no_happenings_here(self):
        for net in (BOTH, trials.MIXED):
            self.assert_stops(net, (("begin", 0, 0), ("mark", 0)), 1)
        self.assert_stops(BOTH, (("mark", 4),), 0)

    def test_deeds_that_can_not_be_done(self):
        for wrong in (("act", 4), ("act", 12), ("act", -1), take(ORDER, 1), lose(ORDER, 0), lose(LOOSE, 0), take(LOOSE, 5),
                      lose(ORDER_LOSSY, 0), ("take", 5, -1), ("take", 0, 0)):
            self.assert_stops(BOTH, (send(ORDER), send(LOOSE), ("begin", 0, 0), wrong, send(ORDER)), 3)

    def test_60_deeds_and_a_61st(self):
        begins = [("begin", process, s) for process in range(3) for s in range(4)]
        self.assertEqual(len(coloured(BOTH, [send(LOOSE)] * 60 + begins)[0]), 60)
        for last in (send(LOOSE), take(LOOSE, 0), ("act", 99)):
            self.assert_stops(BOTH, [send(LOOSE)] * 60 + [last], 60)
            self.assert_stops(BOTH, begins + [send(LOOSE)] * 60 + [last, None], 72)
            self.assert_stops(BOTH, [send(LOOSE)] * 60 + begins + [last], 72)

    def test_values_that_are_no_happenings(self):
        for wrong in samples.ODD_VALUES:
            self.assert_stops(BOTH, (send(ORDER), ("begin", 0, 0), wrong), 2)
            self.assert_stops(BOTH, [wrong], 0)

    def test_what_is_no_sequence(self):
        for wrong in (None, 0, -1, 10 ** 400, "", "begin", True):
            self.assert_stops(BOTH, wrong, 0)

    def test_lists_and_names(self):
        happenings = [["act", 1], ["begin", 1, 0], ["take", 5, 0], ["act", 1]]
        told = coloured(happenings=happenings, net=BOTH)
        self.assertEqual(told, coloured(BOTH, tuple(map(tuple, happenings))))
        self.assertEqual(told, ((("act", 1), ("take", 5, 0), ("act", 1)),
                                ((0, (None, 0, None), only(LOOSE, (0, 5)), NONE, only(LOOSE, (1, 5))),)))
        self.assertEqual(happenings, [["act", 1], ["begin", 1, 0], ["take", 5, 0], ["act", 1]])
        happenings[0][1] = 0
        self.assertEqual(told[0], (("act", 1), ("take", 5, 0), ("act", 1)))


class AgainstTheModel(ColouredCase):

    def all_happenings(self):
        for seed in range(60):
            for net in NETS:
                chance = random.Random(seed)
                yield net, random_happenings(net, chance, chance.randrange(10, 80))

    def test_random_happenings(self):
        for net, happenings in self.all_happenings():
            model = Model(net)
            for happening in happenings:
                model.do(happening)
            self.assertEqual(coloured(net, happenings), model.told())

    def test_what_can_not_be(self):
        for seed in range(10):
            for net in NETS:
                happenings = random_happenings(net, random.Random(seed), 30)
                model = Model(net)
                for at, happening in enumerate(happenings):
                    for other in (*model.conceivable(), ("mark", 0), ("take", 5, 7), ("lose", 3, 9)):
                        if not model.can(other):
                            self.assert_stops(net, (*happenings[:at], other, None), at)
                    model.do(happening)

    def test_what_a_cut_that_all_recorded_tells(self):
        seen = 0
        for net, happenings in self.all_happenings():
            deeds, snapshots = coloured(net, happenings)
            told = history(net, deeds)
            for _, cut, *rows in snapshots:
                if None not in cut:
                    self.assertIs(is_cut(net, told, cut), True)
                    in_one_row = tuple(tuple(sorted(sum(parts, ()))) for parts in zip(*rows))
                    self.assertEqual(world_at(net, told, cut)[2], in_one_row)
                    seen += any(any(row) for row in rows)
        self.assertGreater(seen, 30)


if __name__ == "__main__":
    unittest.main()
