"""Whether a part of a paper stands for the right one."""

from lastgiver.checks import is_integer
from lastgiver.ratios import Ratio


def matches(value, right):
    """Whether any value stands for the right one: an integer for a ratio, too, but for nothing else."""
    if isinstance(right, tuple):
        if not isinstance(value, tuple) or len(value) != len(right):
            return False
        return all([matches(item, told) for item, told in zip(value, right)])
    if isinstance(right, Ratio):
        return right == value
    if isinstance(right, bool):
        return isinstance(value, bool) and value == right
    if isinstance(right, str):
        return isinstance(value, str) and value == right
    if right is None:
        return value is None
    return is_integer(value) and value == right
