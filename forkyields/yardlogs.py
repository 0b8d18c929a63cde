"""Logs of yards, and yards from them."""

from forkyields.checks import need
from forkyields.kinds import is_system, is_word
from forkyields.yardevents import is_event, is_guard
from forkyields.yards import Yard


def is_log(thing):
    """Whether any value is the beginning of a yard, followed by events by kind, possible or not."""
    if not isinstance(thing, tuple) or not thing or not is_beginning(thing[0]):
        return False
    return all([is_event(event) for event in thing[1:]])


def is_beginning(thing):
    """Whether any value tells the system and the guard with which a yard begins."""
    if not isinstance(thing, tuple) or len(thing) != 3:
        return False
    return is_word(thing[0], ("yard",)) and is_system(thing[1]) and is_guard(thing[2])


def replayed(log):
    """A new yard behind the events of a log, or the error of the first that is not possible."""
    need(is_log(log), "log")
    _, system, guard = log[0]
    yard = Yard(system, guard=guard)
    for event in log[1:]:
        yard.take_in(event)
    return yard
