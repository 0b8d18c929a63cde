"""The tree of processes behind a run."""

from forkyields.checks import need
from forkyields.kinds import is_number
from forkyields.playing import checked_world, forkers_in, was_forked
from forkyields.worlds import CODE, PARENT, all_steps, children_in, is_there, lives, program_of, tree_of


def tree_after(system, run):
    """The tree behind a run: a row for each process that is there."""
    return tree_of(checked_world(system, run))


def next_steps(system, run):
    """The set of the steps that are possible behind a run."""
    world = checked_world(system, run)
    return tuple(sorted(set(all_steps(program_of(system), world))))


def is_at_rest(system, run):
    """Whether no step is possible behind a run."""
    return not next_steps(system, run)


def parent_of(system, run, process):
    """The parent of a process that is there, -1 for the outside."""
    world = checked_world(system, run)
    need(is_number(process) and is_there(world, process), "process")
    return world[process][PARENT]


def children_of(system, run, process):
    """The set of the children of a process that is there."""
    world = checked_world(system, run)
    need(is_number(process) and is_there(world, process), "process")
    return tuple(sorted(set(children_in(world[process]))))


def lying_with(system, run, process):
    """The set of those children of a living process that have ended."""
    world = checked_world(system, run)
    need(is_number(process) and lives(world, process), "process")
    return lying_in(world, process)


def lying_in(world, process):
    """The set of the ended children of a living process."""
    return tuple(sorted(set([child for child in children_in(world[process]) if world[child][CODE] != -1])))


def forker_of(system, run, process):
    """Who forked a process, also one that is gone; -1 for process 0."""
    world = checked_world(system, run)
    need(was_forked(world, process), "process")
    return forkers_in(run)[process]
