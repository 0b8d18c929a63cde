"""Runs, played step by step."""

from forkyields.checks import need_system
from forkyields.errors import InvalidPaper, NotUsable
from forkyields.kinds import is_number, is_step
from forkyields.worlds import first_world, instruction_at, lives, program_of, steps_of, words_at, world_after


def refusal(program, world, thing):
    """Why any value is no step that is possible now, the empty string if it is one."""
    if not is_step(thing):
        return "step"
    process = thing[0]
    if not lives(world, process):
        return "process"
    if thing[1] not in words_at(instruction_at(program, world[process])):
        return "word"
    return "" if thing in steps_of(program, world, process) else "number"


def played(system, thing):
    """The world behind any value that is a run of the system, or InvalidPaper."""
    if not isinstance(thing, tuple):
        raise InvalidPaper("shape", -1)
    program = program_of(system)
    world = first_world(system)
    for k, step in enumerate(thing):
        word = refusal(program, world, step)
        if word:
            raise InvalidPaper(word, k)
        world = world_after(program, world, step)
    return world


def is_played(system, thing):
    """Whether any value is a run of the system."""
    try:
        played(system, thing)
    except InvalidPaper:
        return False
    return True


def checked_world(system, run):
    """The world behind a run, the first parameter that is none refused."""
    need_system(system)
    try:
        return played(system, run)
    except InvalidPaper as e:
        raise NotUsable("run", -1) from e


def was_forked(world, process):
    """Whether any value is the number of a process that was ever forked, process 0 among them."""
    return is_number(process) and process < len(world)


def moments(system, run):
    """For each step of a run, the row of its process before it, and that of the child that it takes, or ()."""
    program = program_of(system)
    world = first_world(system)
    rows = []
    for step in run:
        process, word, number = step
        rows.append((world[process], world[number] if word == "take" else ()))
        world = world_after(program, world, step)
    return rows


def forkers_in(run):
    """For each process of a run, by its number, who forked it; -1 for process 0."""
    return [-1] + [process for process, word, number in run if word == "fork"]
