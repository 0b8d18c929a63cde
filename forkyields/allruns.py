"""All runs of one length."""

from forkyields.checks import need, need_system
from forkyields.kinds import is_number
from forkyields.worlds import all_steps, first_world, program_of, world_after


def runs_of(system, length):
    """All runs that have just length steps, ascending, one by one."""
    need_system(system)
    need(is_number(length), "length")
    program = program_of(system)
    pending = [((), first_world(system))]
    while pending:
        run, world = pending.pop()
        if len(run) == length:
            yield run
        else:
            pending.extend(runs_beyond(program, run, world))


def runs_beyond(program, run, world):
    """The runs with one step more, with the worlds behind them, the greatest first."""
    steps = sorted(set(all_steps(program, world)))
    return [((*run, step), world_after(program, world, step)) for step in steps[::-1]]
