"""The state of a process, and the numbers of its pool."""

from forkyields.checks import kind_called, need, need_kind, need_system
from forkyields.kinds import is_number
from forkyields.playing import checked_world, moments
from forkyields.stateparts import beginning
from forkyields.worlds import CODE, PLACE, POOL, SLOTS, lives


def first_state(system, kind):
    """The state in which a process of the kind begins."""
    need_system(system)
    need_kind(system, kind)
    return beginning(kind_called(system, kind))


def state_of(system, run, process):
    """The state of a living process behind a run."""
    world = checked_world(system, run)
    need(is_number(process) and lives(world, process), "process")
    return state_in(system, run, world, process)


def pool_of(system, run, process):
    """How many children in the pool of a living process have ended behind a run, and how many live."""
    world = checked_world(system, run)
    need(is_number(process) and lives(world, process), "process")
    pool = world[process][POOL]
    living = len([child for child in pool if lives(world, child)])
    return (len(pool) - living, living)


def state_in(system, run, world, process):
    """The state of a living process in the world behind a run."""
    places = fork_places(system, run)
    row = world[process]
    held = [(places[child], world[child][CODE]) if child != -1 else () for child in row[SLOTS]]
    return (row[PLACE], tuple(held))


def fork_places(system, run):
    """For each process of a run, the place of the fork by which it began; -1 for process 0."""
    rows = list(zip(run, moments(system, run)))
    return [-1] + [before[PLACE] for step, (before, child) in rows if step[1] == "fork"]
