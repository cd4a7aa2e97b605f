"""Nets, and their texts."""

from cutweave.errors import BadNet, BadValue
from cutweave.shapes import is_below, is_row, is_sequence

MOST_PROCESSES = 5
MOST_STATES = 8
MOST_CHANNELS = 8
MOST_RULES = 40
MANY_TOKENS = 10
LONGEST_NAME = 6
LETTERS = "abcdefghijklmnopqrstuvwxyz"
DIGITS = ("0", "1", "2", "3", "4", "5", "6", "7", "8", "9")
ORDERED = ("order", "order lossy")
LOSSY = ("order lossy", "loose lossy")
KINDS = ("order", "loose", "order lossy", "loose lossy")


class Net:
    """Processes, the channels between them, and the rules by which they step."""

    def __init__(self, processes, channels, rules):
        if not are_processes(processes):
            raise BadValue(0)
        if not are_channels(processes, channels):
            raise BadValue(1)
        if not are_rules(processes, channels, rules):
            raise BadValue(2)
        self.processes = tuple([tuple(row) for row in processes])
        self.channels = tuple([tuple(row) for row in channels])
        self.rules = tuple([(process, state, tuple(act), then) for process, state, act, then in rules])

    def __eq__(self, other):
        return (isinstance(other, Net) and self.processes == other.processes
                and self.channels == other.channels and self.rules == other.rules)


def is_name(value):
    """Whether the value can be the name of a process or a channel."""
    return (isinstance(value, str) and 1 <= len(value) <= LONGEST_NAME
            and all([letter in LETTERS for letter in value]))


def are_unlike(names):
    """Whether no two of the names are the same."""
    return len(set(names)) == len(names)


def is_process(row):
    """Whether the row tells a process."""
    return is_row(row, 2) and is_name(row[0]) and is_below(row[1], MOST_STATES + 1) and row[1] > 0


def are_processes(rows):
    """Whether these can be all the processes of a net."""
    return (is_sequence(rows) and 1 <= len(rows) <= MOST_PROCESSES
            and all([is_process(row) for row in rows])
            and are_unlike([row[0] for row in rows]))


def is_channel(processes, row):
    """Whether the row tells a channel between two of the processes."""
    many = len(processes)
    return (is_row(row, 4) and is_name(row[0]) and is_below(row[1], many) and is_below(row[2], many)
            and row[1] != row[2] and row[3] in KINDS)


def are_channels(processes, rows):
    """Whether these can be all the channels of a net with these processes."""
    return (is_sequence(rows) and len(rows) <= MOST_CHANNELS
            and all([is_channel(processes, row) for row in rows])
            and are_unlike([row[0] for row in rows]))


def is_act(channels, process, act):
    """Whether the process can have a rule with this act."""
    if is_row(act, 1):
        return act[0] == "do"
    if not is_row(act, 3) or not is_below(act[1], len(channels)) or not is_below(act[2], MANY_TOKENS):
        return False
    giver, taker = channels[act[1]][1:3]
    return (act[0] == "send" and process == giver) or (act[0] == "take" and process == taker)


def is_rule(processes, channels, row):
    """Whether the row tells a rule of a net with these processes and channels."""
    if not is_row(row, 4) or not is_below(row[0], len(processes)):
        return False
    states = processes[row[0]][1]
    return is_below(row[1], states) and is_act(channels, row[0], row[2]) and is_below(row[3], states)


def are_rules(processes, channels, rows):
    """Whether these can be all the rules of a net with these processes and channels."""
    return (is_sequence(rows) and len(rows) <= MOST_RULES
            and all([is_rule(processes, channels, row) for row in rows]))


def net_text(net):
    """The text of the net, a line for each of its parts."""
    lines = [f"process {name} {states}\n" for name, states in net.processes]
    lines.extend([channel_line(net, row) for row in net.channels])
    lines.extend([rule_line(net, row) for row in net.rules])
    return "".join(lines)


def channel_line(net, row):
    """The line of a channel."""
    name, giver, taker, kind = row
    return f"channel {name} {net.processes[giver][0]} {net.processes[taker][0]} {kind}\n"


def rule_line(net, row):
    """The line of a rule."""
    process, state, act, then = row
    words = act[0]
    if len(act) == 3:
        words = f"{act[0]} {net.channels[act[1]][0]} {act[2]}"
    return f"rule {net.processes[process][0]} {state} {words} {then}\n"


def read_net(text):
    """The net with this text; BadNet tells the first line with which no net's text begins."""
    if not isinstance(text, str):
        raise BadNet(0)
    lines = text.split("\n")
    # Behind the last line feed nothing may stand.
    rest = lines.pop()
    processes, channels, rules = [], [], []
    for at, line in enumerate(lines):
        if not goes_on(processes, channels, rules, line.split(" ")):
            raise BadNet(at)
    if rest != "" or not lines:
        raise BadNet(len(lines))
    return Net(processes, channels, rules)


def goes_on(processes, channels, rules, words):
    """Adds the row of the line with these words; whether the rows are then those of a net.

    No line that comes later makes up for a row that is wrong, so the lines up to this one
    are the beginning of a net's text just if they are the text of a net.
    """
    if words[0] == "process":
        processes.append(process_row(words))
        return not channels and not rules and are_processes(processes)
    if words[0] == "channel":
        channels.append(channel_row(processes, words))
        return not rules and are_channels(processes, channels)
    rules.append(rule_row(processes, channels, words))
    return are_rules(processes, channels, rules)


def process_row(words):
    """The process that the words tell; parts that are wrong are None, or all of it is."""
    if len(words) != 3:
        return None
    return words[1], digit(words[2])


def channel_row(processes, words):
    """The channel that the words tell; parts that are wrong are None, or all of it is."""
    if len(words) < 5:
        return None
    return words[1], place(processes, words[2]), place(processes, words[3]), " ".join(words[4:])


def rule_row(processes, channels, words):
    """The rule that the words tell; parts that are wrong are None, or all of it is."""
    if words[0] != "rule" or len(words) not in (5, 7):
        return None
    act = (words[3],)
    if len(words) == 7:
        act = (words[3], place(channels, words[4]), digit(words[5]))
    return place(processes, words[1]), digit(words[2]), act, digit(words[-1])


def digit(word):
    """The number that the word tells, None if it is no single digit: a net has no greater ones."""
    return int(word) if word in DIGITS else None


def place(rows, name):
    """The number of the row with this name, None if there is none."""
    names = [row[0] for row in rows]
    return names.index(name) if name in names else None
