"""What is asked of values that are handed in; none of it looks deeper than one row."""


def is_number(value):
    """Whether the value is an integer from 0 on; True and False are none."""
    return isinstance(value, int) and not isinstance(value, bool) and value >= 0


def is_below(value, end):
    """Whether the value is a number below the end."""
    return is_number(value) and value < end


def is_sequence(value):
    """Whether the value is one of the two kinds of sequences that may be handed in."""
    return isinstance(value, (list, tuple))


def is_row(value, many):
    """Whether the value is a sequence of just so many parts."""
    return is_sequence(value) and len(value) == many
