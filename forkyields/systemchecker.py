"""The check of whole systems."""

from forkyields.errors import InvalidPaper
from forkyields.kinds import system_fault


def lets_system(thing):
    """How many places all kinds of a system have together; InvalidPaper for any value that is none."""
    fault = system_fault(thing)
    if fault is not None:
        raise InvalidPaper(fault[0], fault[1])
    return sum([len(kind[2]) for kind in thing])
