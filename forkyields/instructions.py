"""Parts of instructions that are ones by form."""


def is_waiting(instruction):
    """Whether the instruction is a wait or a poll."""
    return instruction[0] in ("wait", "poll")


def has_pool(instruction):
    """Whether a wait or poll looks into the pool, too."""
    return instruction[2] != -1


def row_slots(instruction):
    """The slots of the rows of a wait or poll, in their order."""
    return [row[0] for row in instruction[1]]


def named_slots(instruction):
    """The slots that the instruction names, without the pool."""
    word = instruction[0]
    if is_waiting(instruction):
        return row_slots(instruction)
    if word == "fork":
        return [slot for slot in (instruction[3],) if slot != ""]
    if word in ("kill", "release"):
        return [instruction[1]]
    return []


def all_targets(instruction):
    """The targets of the instruction, some perhaps several times."""
    word = instruction[0]
    if word == "go":
        return list(instruction[1])
    if is_waiting(instruction):
        return wait_targets(instruction)
    if word == "exit":
        return []
    return [instruction[-1]]


def wait_targets(instruction):
    """The targets of a wait or poll: of its rows, its pool, none and later."""
    of_rows = [target for row in instruction[1] for target in row[1:]]
    of_pool = [instruction[2]] if has_pool(instruction) else []
    return of_rows + of_pool + list(instruction[3:-1])


def all_tags(instruction):
    """The tags of a fork, a wait or a poll."""
    if is_waiting(instruction):
        return list(instruction[-1])
    if instruction[0] == "fork":
        return [instruction[2]]
    return []


def fork_tags(system):
    """The tags of all forks of a system, ascending."""
    return sorted(set([place[2] for kind in system for place in kind[2] if place[0] == "fork"]))
