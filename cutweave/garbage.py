"""What no line will ever need: checkpoints and messages that can be dropped."""

from cutweave.rollback import line
from cutweave.tales import Tale


def floor(net, told, checkpoints):
    """The line if all processes failed."""
    return line(net, told, checkpoints, list(range(len(net.processes))))


def droppable(net, told, checkpoints):
    """For each process its checkpoints below its number in the floor."""
    least = floor(net, told, checkpoints)
    return tuple([tuple([many for many in row if many < number]) for row, number in zip(checkpoints, least)])


def open_messages(net, told, checkpoints):
    """For each channel the messages (k, token) that were sent and are not gone within the floor."""
    least = floor(net, told, checkpoints)
    tale = Tale(net, told)
    return tuple([tale.pairs_between(channel, len(tale.rows[row[1]]), least[row[2]])
                  for channel, row in enumerate(net.channels)])
