"""The greatest cut that stands when processes fail, and how it is come to."""

from cutweave.errors import BadValue
from cutweave.nets import are_unlike
from cutweave.shapes import is_below, is_row, is_sequence
from cutweave.tales import Tale


def line(net, told, checkpoints, failed):
    """The greatest consistent cut all of whose numbers are allowed."""
    tale = tale_with(net, told, checkpoints)
    if not are_processes_of(tale, failed):
        raise BadValue(3)
    return standing(tale, checkpoints, failed)


def domino(net, told, checkpoints, failed):
    """Each going back that leads to the line: (process, elder, newer, channel, k)."""
    tale = tale_with(net, told, checkpoints)
    if not are_processes_of(tale, failed):
        raise BadValue(3)
    first = [(process, len(tale.rows[process]), checkpoints[process][-1], None, None) for process in sorted(failed)
             if len(tale.rows[process]) > checkpoints[process][-1]]
    return (*first, *fallen(tale, allowed_numbers(tale, checkpoints, failed))[1])


def logged_line(net, told, checkpoints, logs, failed):
    """The line, with each number from the last checkpoint to the log being allowed, too."""
    tale = tale_with(net, told, checkpoints)
    if not are_logs(tale, checkpoints, logs):
        raise BadValue(3)
    if not are_processes_of(tale, failed):
        raise BadValue(4)
    written = [[*row, *list(range(row[-1], log + 1))] for row, log in zip(checkpoints, logs)]
    return standing(tale, written, failed)


def tale_with(net, told, checkpoints):
    """The history, of which these must be checkpoints."""
    tale = Tale(net, told)
    if not is_row(checkpoints, len(tale.rows)):
        raise BadValue(2)
    if not all([is_rising(row, many) for row, many in zip(checkpoints, tale.whole_cut())]):
        raise BadValue(2)
    return tale


def is_rising(row, most):
    """Whether the value is a row of rising numbers from 0 on, none above the most."""
    return (is_sequence(row) and all([is_below(many, most + 1) for many in row]) and len(row) > 0 and row[0] == 0
            and all([one < other for one, other in zip(row, row[1:])]))


def are_processes_of(tale, failed):
    """Whether the value is a row of unlike processes."""
    return (is_sequence(failed) and all([is_below(process, len(tale.rows)) for process in failed])
            and are_unlike(failed))


def are_logs(tale, checkpoints, logs):
    """Whether the value tells for each process a number from its last checkpoint to all its events."""
    return is_row(logs, len(tale.rows)) and all([
        is_below(log, many + 1) and log >= row[-1] for log, row, many in zip(logs, checkpoints, tale.whole_cut())])


def allowed_numbers(tale, checkpoints, failed):
    """For each process the numbers that are allowed: what it has kept, and all its events if it has not failed."""
    return [list(row) if process in failed else [*row, len(tale.rows[process])]
            for process, row in enumerate(checkpoints)]


def standing(tale, checkpoints, failed):
    """The greatest consistent cut of allowed numbers, for checkpoints and failed processes that are such."""
    return fallen(tale, allowed_numbers(tale, checkpoints, failed))[0]


def fallen(tale, allowed):
    """The numbers that stand, and each going back to them because a message is gone that is not sent."""
    numbers = [row[-1] for row in allowed]
    steps = []
    unsent = first_unsent(tale, numbers)
    while unsent is not None:
        taker, channel, k = unsent
        gone_at = tale.messages[channel][k].gone_at
        newer = max([many for many in allowed[taker] if many <= gone_at])
        steps.append((taker, numbers[taker], newer, channel, k))
        numbers[taker] = newer
        unsent = first_unsent(tale, numbers)
    return tuple(numbers), tuple(steps)


def first_unsent(tale, numbers):
    """The first message (taker, channel, k) that is gone within the numbers and not sent within them, or None."""
    unsent = []
    for channel, messages in enumerate(tale.messages):
        giver, taker = tale.net.channels[channel][1:3]
        unsent.extend([(taker, channel, k) for k, message in enumerate(messages)
                       if message.is_gone(numbers[taker]) and not message.is_sent(numbers[giver])])
    return min(unsent, default=None)
