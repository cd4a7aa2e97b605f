"""Nets that several tests use, and values that are wrong nearly everywhere."""

import reprlib
import unittest

from cutweave.nets import Net

# p sends 5 and 6 on each of four channels of unlike kinds, q takes them.
FOUR = Net(
    (("p", 2), ("q", 3)),
    (("c", 0, 1, "order"), ("d", 0, 1, "loose"), ("e", 0, 1, "order lossy"), ("f", 0, 1, "loose lossy")),
    (
        (0, 0, ("send", 0, 5), 0), (0, 0, ("send", 0, 6), 0),
        (0, 0, ("send", 1, 5), 0), (0, 0, ("send", 1, 6), 0),
        (0, 0, ("send", 2, 5), 0), (0, 0, ("send", 2, 6), 0),
        (0, 0, ("send", 3, 5), 0), (0, 0, ("send", 3, 6), 0),
        (0, 0, ("do",), 1),
        (1, 0, ("take", 0, 5), 1), (1, 0, ("take", 0, 6), 2),
        (1, 0, ("take", 1, 5), 1), (1, 0, ("take", 1, 6), 2),
        (1, 0, ("take", 2, 5), 1), (1, 0, ("take", 2, 6), 2),
        (1, 0, ("take", 3, 5), 1), (1, 0, ("take", 3, 6), 2),
        (1, 1, ("do",), 0), (1, 2, ("do",), 0),
    ),
)

# Three processes in a ring, that go round for ever.
RING = Net(
    [["a", 2], ["b", 2], ["c", 1]],
    [["ab", 0, 1, "order"], ["bc", 1, 2, "loose lossy"], ["ca", 2, 0, "order lossy"]],
    [
        [0, 0, ["send", 0, 1], 1], [1, 0, ["take", 0, 1], 1], [1, 1, ["send", 1, 2], 0],
        [2, 0, ["take", 1, 2], 0], [2, 0, ["send", 2, 0], 0], [0, 1, ["take", 2, 0], 0],
        [0, 1, ["do"], 0], [1, 0, ["do"], 0],
    ],
)

LONE = Net((("lone", 1),), (), ())


def nested(depth, inner=()):
    """A value nested so deep that no program can follow it by calls."""
    value = inner
    for _ in range(depth):
        value = (value,)
    return value


DEEP = nested(100000)

ODD_VALUES = (
    None, "", "a", "order", "do", "process p 1\n", 0, 1, -1, 7, 10 ** 400, -10 ** 400, True, False,
    (), [], (None,), ("",), (0,), ((),), ([],), (0, 0), ("a", "b"), (None, None), ("a", 0), ("a", None),
    (0, 0, 0), (0, 0, 0, 0), (None, None, None, None), ((0, 0), (0, 0)), [[0, 0, ["do"], 0, 0]],
    DEEP, nested(100000, "do"), list(nested(100000, 1)),
)


def listed(value):
    """The same value with lists in place of tuples, also within."""
    if isinstance(value, (list, tuple)):
        return [listed(part) for part in value]
    return value


def is_tuple_throughout(value):
    """Whether no list stands anywhere in the value."""
    if isinstance(value, tuple):
        return all(is_tuple_throughout(part) for part in value)
    return isinstance(value, (int, str)) and not isinstance(value, bool)


class RaisesCase(unittest.TestCase):
    """Tests that ask for an error and what it tells."""

    def assert_raises(self, kind, told, function, *arguments, **named):
        """The call raises just this kind of error, which keeps what is told."""
        with self.assertRaises(kind, msg=reprlib.repr((function.__name__, arguments, named))) as caught:
            function(*arguments, **named)
        self.assertIs(type(caught.exception), kind)
        self.assertEqual(list(vars(caught.exception).values()), [told])
