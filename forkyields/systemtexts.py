"""Systems and instructions as texts."""

from forkyields.checks import need, need_system
from forkyields.instructions import is_waiting
from forkyields.kinds import is_instruction


def instruction_text(instruction):
    """The line that writes an instruction by form."""
    need(is_instruction(instruction), "instruction")
    return instruction_line(instruction)


def system_text(system):
    """The lines that write a system, with newlines between."""
    need_system(system)
    return "\n".join(system_lines(system))


def system_lines(system):
    """The list of the lines that write a system."""
    return [line for kind in system for line in kind_lines(kind)]


def kind_lines(kind):
    """The lines of a kind: its head, then its instructions."""
    name, slots, places = kind
    return [f"kind {name} {joined_word(slots)}"] + [instruction_line(place) for place in places]


def instruction_line(instruction):
    """The words of an instruction, its word first."""
    word = instruction[0]
    if is_waiting(instruction):
        return wait_line(instruction)
    if word == "go":
        return f"go {joined_word(instruction[1])}"
    if word == "fork":
        return fork_line(instruction)
    return " ".join([str(part) for part in instruction])


def fork_line(instruction):
    """The words of a fork."""
    word, kind, tag, slot, target = instruction
    return " ".join([word, kind, tag, slot if slot else "-", str(target)])


def wait_line(instruction):
    """The words of a wait or poll."""
    word, rows, pool = instruction[:3]
    words = [word, joined_word([row_text(row) for row in rows]), "-" if pool == -1 else str(pool)]
    further = [str(target) for target in instruction[3:-1]]
    return " ".join([*words, *further, joined_word(instruction[-1])])


def row_text(row):
    """A row of a wait or poll."""
    slot, first, second, third = row
    return f"{slot}:{first}:{second}:{third}"


def joined_word(parts):
    """One word for several parts, - without any."""
    return ",".join([str(part) for part in parts]) if parts else "-"
