"""What one step does to the tree of processes.

A world is a tuple that has for each process, by its number, its row in the tree, or () once it is gone.
A program is a dict that has each kind of a system under its name.
"""

from forkyields.instructions import has_pool, is_waiting, row_slots

KIND = 1
TAG = 2
PARENT = 3
CODE = 4
PLACE = 5
SLOTS = 6
POOL = 7


def program_of(system):
    """The kinds of a system by their names."""
    return {kind[0]: kind for kind in system}


def fresh_row(number, kind, tag, parent):
    """The row of a process that was just forked."""
    return (number, kind[0], tag, parent, -1, 0, tuple([-1 for slot in kind[1]]), ())


def first_world(system):
    """The world in which there is process 0 alone, at its beginning."""
    return (fresh_row(0, system[0], "", -1),)


def tree_of(world):
    """The tuple of the rows of the processes that are there."""
    return tuple([row for row in world if row])


def is_there(world, process):
    """Whether this number is that of a process that is living, or ended and not taken."""
    return process < len(world) and world[process] != ()


def lives(world, process):
    """Whether this number is that of a living process."""
    return is_there(world, process) and world[process][CODE] == -1


def instruction_at(program, row):
    """The instruction at the place of a process."""
    return program[row[KIND]][2][row[PLACE]]


def children_in(row):
    """The numbers of the children of a process."""
    return [child for child in row[SLOTS] if child != -1] + list(row[POOL])


def slot_holding(program, row, child):
    """The slot that a child of a process is in, the empty string for the pool."""
    if child in row[POOL]:
        return ""
    return program[row[KIND]][1][row[SLOTS].index(child)]


def children_in_reach(program, row):
    """The children of a process that its wait or poll looks at."""
    instruction = instruction_at(program, row)
    slots = program[row[KIND]][1]
    held = [row[SLOTS][slots.index(slot)] for slot in row_slots(instruction)]
    of_pool = list(row[POOL]) if has_pool(instruction) else []
    return [child for child in held if child != -1] + of_pool


def words_at(instruction):
    """The words of the steps that an instruction can have."""
    word = instruction[0]
    if word == "wait":
        return ("take", "none")
    if word == "poll":
        return ("take", "none", "later")
    return (word,)


def steps_of(program, world, process):
    """The steps that are possible for a living process."""
    row = world[process]
    instruction = instruction_at(program, row)
    if is_waiting(instruction):
        return wait_steps(program, world, row)
    if instruction[0] == "go":
        return [(process, "go", target) for target in instruction[1]]
    return [(process, instruction[0], -1)]


def wait_steps(program, world, row):
    """The steps that are possible for a process at a wait or poll."""
    instruction = instruction_at(program, row)
    reach = children_in_reach(program, row)
    takes = [(row[0], "take", child) for child in reach if world[child][CODE] != -1]
    # A wait for the pool gives up only if there is no child at all, not even in a slot that it does not look at.
    hindered = children_in(row) if has_pool(instruction) else reach
    if not hindered:
        return takes + [(row[0], "none", -1)]
    return takes + [(row[0], "later", -1)] if instruction[0] == "poll" else takes


def all_steps(program, world):
    """The steps that are possible for any process."""
    living = [row[0] for row in world if row and row[CODE] == -1]
    return [step for process in living for step in steps_of(program, world, process)]


def world_after(program, world, step):
    """The world behind a step that is possible."""
    process, word, number = step
    row = world[process]
    instruction = instruction_at(program, row)
    if word == "go":
        return replaced(world, [at_place(row, number)])
    if word == "fork":
        return after_fork(program, world, row)
    if word == "take":
        return after_take(program, world, row, number)
    if word == "kill":
        return after_kill(program, world, row)
    if word == "release":
        return replaced(world, [at_place(filled(program, row, instruction[1], -1), instruction[2])])
    if word == "exit":
        return ended(world, process, instruction[1])
    return replaced(world, [at_place(row, instruction[3 if word == "none" else 4])])


def after_fork(program, world, row):
    """The world in which a process has done its fork."""
    _, kind, tag, slot, target = instruction_at(program, row)
    child = len(world)
    parent = filled(program, at_place(row, target), slot, child)
    return (*replaced(world, [parent]), fresh_row(child, program[kind], tag, row[0]))


def after_take(program, world, row, child):
    """The world in which a process has taken a child that has ended."""
    instruction = instruction_at(program, row)
    slot = slot_holding(program, row, child)
    if slot == "":
        left = with_children(row, row[SLOTS], [known for known in row[POOL] if known != child])
        return without(replaced(world, [at_place(left, instruction[2])]), child)
    targets = instruction[1][row_slots(instruction).index(slot)][1:]
    slots = [-1 if known == child else known for known in row[SLOTS]]
    left = with_children(row, slots, row[POOL])
    return without(replaced(world, [at_place(left, targets[world[child][CODE]])]), child)


def after_kill(program, world, row):
    """The world in which a process has done its kill."""
    _, slot, target = instruction_at(program, row)
    child = row[SLOTS][program[row[KIND]][1].index(slot)]
    moved = replaced(world, [at_place(row, target)])
    return ended(moved, child, 2) if child != -1 and lives(world, child) else moved


def ended(world, process, code):
    """The world in which a living process has ended, its children handed on to its parent."""
    row = world[process]
    handed = children_in(row)
    rows = [(*world[child][:PARENT], row[PARENT], *world[child][CODE:]) for child in handed]
    bare = with_children(row, [-1 for child in row[SLOTS]], [])
    rows.append((*bare[:CODE], code, *bare[PLACE:]))
    if row[PARENT] != -1:
        parent = world[row[PARENT]]
        rows.append(with_children(parent, parent[SLOTS], [*parent[POOL], *handed]))
    return replaced(world, rows)


def at_place(row, place):
    """The row of a process that has gone to a place."""
    return (*row[:PLACE], place, *row[SLOTS:])


def with_children(row, slots, pool):
    """The row of a process with these children, the pool in any order."""
    return (*row[:SLOTS], tuple(slots), tuple(sorted(set(pool))))


def filled(program, row, slot, child):
    """The row of a process with a child, or -1, in a slot or the pool; who was in the slot is in the pool now."""
    if slot == "":
        return with_children(row, row[SLOTS], [*row[POOL], child])
    at = program[row[KIND]][1].index(slot)
    moved = [known for known in row[SLOTS][at:at + 1] if known != -1]
    return with_children(row, [*row[SLOTS][:at], child, *row[SLOTS][at + 1:]], [*row[POOL], *moved])


def replaced(world, rows):
    """The world with these rows in the places of those of the same processes."""
    after = list(world)
    for row in rows:
        after[row[0]] = row
    return tuple(after)


def without(world, process):
    """The world in which a process is gone."""
    return (*world[:process], (), *world[process + 1:])
