"""Events and logs of yards as texts."""

from forkyields.checks import need
from forkyields.runtexts import step_line
from forkyields.systemtexts import system_lines
from forkyields.yardevents import is_event
from forkyields.yardlogs import is_log


def event_line(event):
    """The line that writes an event by kind."""
    need(is_event(event), "event")
    return line_of(event)


def log_lines(log):
    """The list of the lines that write a log: its head, its system, its events."""
    need(is_log(log), "log")
    _, system, guard = log[0]
    lines = system_lines(system)
    return [f"yard {guard} {len(lines)}", *lines, *[line_of(event) for event in log[1:]]]


def line_of(event):
    """The words of an event: its first word, then its parts."""
    parts = [step_line(event[1])] if event[0] == "step" else [str(part) for part in event[1:]]
    return " ".join([event[0], *parts])
