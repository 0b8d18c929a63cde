"""Which values are runs, and what single processes do in them."""

from forkyields.checks import need, need_system
from forkyields.playing import checked_world, forkers_in, is_played, moments, played, was_forked
from forkyields.worlds import CODE, PLACE, TAG, instruction_at, program_of, slot_holding


def is_run(system, thing):
    """Whether any value is a run of the system."""
    need_system(system)
    return is_played(system, thing)


def lets_run(system, thing):
    """How many processes there are or were during a run; InvalidPaper for any value that is none."""
    need_system(system)
    return len(played(system, thing))


def view_of(system, run, process):
    """The tuple of the own steps of a process, as it sees them."""
    world = checked_world(system, run)
    need(was_forked(world, process), "process")
    program = program_of(system)
    steps = list(zip(run, moments(system, run)))
    return tuple([seen_step(program, step, rows) for step, rows in steps if step[0] == process])


def seen_step(program, step, rows):
    """A step as its process sees it: its word, a slot and a number."""
    word, number = step[1:]
    row, child = rows
    instruction = instruction_at(program, row)
    if word == "go":
        return ("go", "", number)
    if word == "fork":
        return ("fork", instruction[3], -1)
    if word == "take":
        slot = slot_holding(program, row, number)
        return ("take", slot, child[CODE] if slot else -1)
    if word == "exit":
        return ("exit", "", instruction[1])
    return (word, instruction[1] if word in ("kill", "release") else "", -1)


def takes_in(system, run):
    """A row for each take: step, taker, its place, child, tag, whether the wait or poll is meant for it."""
    checked_world(system, run)
    return take_rows(system, run)


def take_rows(system, run):
    """A row for each take of a run."""
    program = program_of(system)
    rows = moments(system, run)
    return tuple([take_row(program, k, row, child) for k, (row, child) in enumerate(rows) if child])


def take_row(program, k, row, child):
    """The row of step k, by which a process takes a child."""
    tags = instruction_at(program, row)[-1]
    return (k, row[0], row[PLACE], child[0], child[TAG], child[TAG] in tags)


def family_of(system, run, process):
    """The set of a process and of all that came of it, gone ones among them."""
    world = checked_world(system, run)
    need(was_forked(world, process), "process")
    family = [process]
    for child, forker in enumerate(forkers_in(run)):
        if forker in family:
            family.append(child)
    return tuple(family)
