"""What is so at one moment of a yard, what an event makes of it, and why an event is not possible.

A moment is a tuple (run, world, exclusions, guard, marks): the steps that happened and the world behind them, the
set of the exclusions in force, "on" or "off", and for each mark its name with the number of steps ahead of it.
"""

from forkyields.instructions import all_tags
from forkyields.playing import refusal
from forkyields.systemchanges import is_exclusion
from forkyields.worlds import CODE, KIND, PLACE, TAG, all_steps, first_world, instruction_at, slot_holding, steps_of
from forkyields.worlds import world_after

RUN = 0
WORLD = 1
EXCLUSIONS = 2
GUARD = 3
MARKS = 4


def first_moment(system, guard):
    """The moment at which a yard begins."""
    return ((), first_world(system), (), guard, ())


def reason_against(system, program, moment, event):
    """Why an event by kind is not possible, the empty string if it is."""
    word = event[0]
    if word == "step":
        return step_reason(program, moment, event[1])
    if word in ("exclude", "allow"):
        if not is_exclusion(system, event[1:]):
            return "row"
        return "same" if (event[1:] in moment[EXCLUSIONS]) == (word == "exclude") else ""
    if word == "guard":
        return "same" if event[1] == moment[GUARD] else ""
    return "twice" if event[1] in [name for name, _ in moment[MARKS]] else ""


def step_reason(program, moment, step):
    """Why a step by form is not possible, the empty string if it is."""
    reason = refusal(program, moment[WORLD], step)
    if reason:
        return reason
    if takes_by_excluded(program, moment, step):
        return "number"
    return "foreign" if moment[GUARD] == "on" and takes_foreign(program, moment[WORLD], step) else ""


def takes_by_excluded(program, moment, step):
    """Whether a possible step takes a child from the slot of a row that is excluded."""
    process, word, child = step
    row = moment[WORLD][process]
    return word == "take" and (row[KIND], row[PLACE], slot_holding(program, row, child)) in moment[EXCLUSIONS]


def takes_foreign(program, world, step):
    """Whether a possible step is a foreign take."""
    process, word, child = step
    return word == "take" and world[child][TAG] not in all_tags(instruction_at(program, world[process]))


def moment_after(program, moment, event):
    """The moment behind an event that is possible."""
    run, world, exclusions, guard, marks = moment
    word = event[0]
    if word == "step":
        return ((*run, event[1]), world_after(program, world, event[1]), exclusions, guard, marks)
    if word == "exclude":
        return (run, world, tuple(sorted(set([*exclusions, event[1:]]))), guard, marks)
    if word == "allow":
        return (run, world, tuple([known for known in exclusions if known != event[1:]]), guard, marks)
    if word == "guard":
        return (run, world, exclusions, event[1], marks)
    return (run, world, exclusions, guard, (*marks, (event[1], len(run))))


def next_events(program, moment):
    """The set of the steps that are possible as events."""
    steps = all_steps(program, moment[WORLD])
    return tuple(sorted(set([step for step in steps if step_reason(program, moment, step) == ""])))


def living_in(world):
    """The numbers of the living processes, ascending."""
    return [row[0] for row in world if row and row[CODE] == -1]


def waits_in_vain(program, moment, process):
    """Whether a living process has no possible step, whatever the guard, but takes by excluded rows."""
    steps = steps_of(program, moment[WORLD], process)
    return all([takes_by_excluded(program, moment, step) for step in steps])
