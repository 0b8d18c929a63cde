"""Which values are names, instructions, kinds, systems, steps and states."""

from forkyields.instructions import all_targets, named_slots

LETTERS = "abcdefghijklmnopqrstuvwxyz"
STEP_WORDS = ("go", "fork", "take", "none", "later", "kill", "release", "exit")
NUMBERED_WORDS = ("go", "take")


def is_integer(thing):
    """Whether any value is an integer: True and False are none."""
    return isinstance(thing, int) and not isinstance(thing, bool)


def is_number(thing):
    """Whether any value is an integer that is at least 0."""
    return is_integer(thing) and thing >= 0


def is_name(thing):
    """Whether any value is a string of one to eight lowercase letters."""
    return isinstance(thing, str) and 1 <= len(thing) <= 8 and all([letter in LETTERS for letter in thing])


def is_name_set(thing):
    """Whether any value is an ascending tuple of names."""
    return isinstance(thing, tuple) and all([is_name(part) for part in thing]) and ascends(thing)


def is_set_of_numbers(thing):
    """Whether any value is an ascending tuple of numbers."""
    return isinstance(thing, tuple) and all([is_number(part) for part in thing]) and ascends(thing)


def ascends(things):
    """Whether names, or numbers, ascend without duplicates."""
    return all([low < high for low, high in zip(things, things[1:])])


def is_word(thing, words):
    """Whether any value is one of these strings."""
    return isinstance(thing, str) and thing in words


def is_one_of(thing, numbers):
    """Whether any value is one of these integers."""
    return is_integer(thing) and thing in numbers


def is_instruction(thing):
    """Whether any value is an instruction by form, with any targets and names."""
    if not isinstance(thing, tuple) or len(thing) < 2 or not isinstance(thing[0], str):
        return False
    word, parts = thing[0], thing[1:]
    if word == "go":
        return len(parts) == 1 and is_set_of_numbers(parts[0]) and len(parts[0]) > 0
    if word == "fork":
        return len(parts) == 4 and has_fork_parts(parts)
    if word == "wait":
        return len(parts) == 4 and has_wait_parts(parts)
    if word == "poll":
        return len(parts) == 5 and has_wait_parts(parts)
    if word in ("kill", "release"):
        return len(parts) == 2 and is_name(parts[0]) and is_number(parts[1])
    return word == "exit" and len(parts) == 1 and is_one_of(parts[0], (0, 1))


def has_fork_parts(parts):
    """Whether four values are the kind, tag, slot and target of a fork."""
    kind, tag, slot, target = parts
    return is_name(kind) and is_name(tag) and (is_name(slot) or is_word(slot, ("",))) and is_number(target)


def has_wait_parts(parts):
    """Whether values are the rows, the pool, the further targets and the tags of a wait or poll."""
    rows, pool, tags = parts[0], parts[1], parts[-1]
    if not has_wait_rows(rows) or not is_integer(pool) or pool < -1:
        return False
    if not rows and pool == -1:
        return False
    return all([is_number(target) for target in parts[2:-1]]) and is_name_set(tags)


def has_wait_rows(thing):
    """Whether any value is a tuple of rows, ascending by slot, each slot at most once."""
    if not isinstance(thing, tuple) or not all([is_wait_row(row) for row in thing]):
        return False
    return ascends([row[0] for row in thing])


def is_wait_row(thing):
    """Whether any value is a slot with three targets."""
    if not isinstance(thing, tuple) or len(thing) != 4:
        return False
    return is_name(thing[0]) and all([is_number(target) for target in thing[1:]])


def is_kind(thing):
    """Whether any value is a kind, its places instructions by form."""
    return has_kind_shape(thing) and all([is_instruction(place) for place in thing[2]])


def has_kind_shape(thing):
    """Whether any value is a triple of a name, a set of names and a nonempty tuple."""
    if not isinstance(thing, tuple) or len(thing) != 3:
        return False
    name, slots, places = thing
    return is_name(name) and is_name_set(slots) and isinstance(places, tuple) and len(places) > 0


def is_system(thing):
    """Whether any value is a system."""
    return system_fault(thing) is None


def system_fault(thing):
    """Why and where any value is no system, as a pair (word, at), or None if it is one."""
    if not isinstance(thing, tuple) or not thing or not all([has_kind_shape(kind) for kind in thing]):
        return ("shape", -1)
    names = [kind[0] for kind in thing]
    for i, name in enumerate(names):
        if name in names[:i]:
            return ("twice", i)
    for word in ("instruction", "target", "slot", "layer"):
        for i, kind in enumerate(thing):
            for p, instruction in enumerate(kind[2]):
                if not place_stands(word, thing, i, instruction):
                    return (word, (i, p))
    return None


def place_stands(word, system, i, instruction):
    """Whether an instruction of kind i is right in what the word says; the words before it hold already."""
    kind = system[i]
    if word == "instruction":
        return is_instruction(instruction)
    if word == "target":
        return all([target < len(kind[2]) for target in all_targets(instruction)])
    if word == "slot":
        return all([slot in kind[1] for slot in named_slots(instruction)])
    return instruction[0] != "fork" or instruction[1] in [later[0] for later in system[i + 1:]]


def is_step(thing):
    """Whether any value is a step by form."""
    if not isinstance(thing, tuple) or len(thing) != 3:
        return False
    process, word, number = thing
    if not is_number(process) or not is_word(word, STEP_WORDS):
        return False
    return is_number(number) if word in NUMBERED_WORDS else is_one_of(number, (-1,))


def is_state(thing):
    """Whether any value is a state by form."""
    if not isinstance(thing, tuple) or len(thing) != 2 or not is_number(thing[0]):
        return False
    return isinstance(thing[1], tuple) and all([is_content(content) for content in thing[1]])


def is_content(thing):
    """Whether any value is the content of a slot by form."""
    if not isinstance(thing, tuple) or len(thing) not in (0, 2):
        return False
    return not thing or (is_number(thing[0]) and is_one_of(thing[1], (-1, 0, 1, 2)))
