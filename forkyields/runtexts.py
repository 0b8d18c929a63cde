"""Steps and runs as texts."""

from forkyields.checks import need
from forkyields.kinds import NUMBERED_WORDS, is_step
from forkyields.playing import checked_world


def step_text(step):
    """The line that writes a step by form."""
    need(is_step(step), "step")
    return step_line(step)


def run_text(system, run):
    """The lines that write a run, with newlines between."""
    checked_world(system, run)
    return run_lines(run)


def run_lines(run):
    """The lines of the steps, with newlines between."""
    return "\n".join([step_line(step) for step in run])


def step_line(step):
    """The words of a step: its process, its word and, for go and take alone, its number."""
    process, word, number = step
    return f"{process} {word} {number}" if word in NUMBERED_WORDS else f"{process} {word}"
