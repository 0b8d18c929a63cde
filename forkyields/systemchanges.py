"""Changed systems: with other kinds, instructions, names, tags, rows and codes."""

from forkyields.checks import kind_called, need, need_kind, need_place, need_system
from forkyields.errors import NotUsable
from forkyields.instructions import has_pool, is_waiting, row_slots
from forkyields.kinds import is_kind, is_name, is_number, is_system


def with_kind(system, kind, *, at=0):
    """The system with a kind more, ahead of that with the index at, or behind all."""
    need_system(system)
    need(is_kind(kind), "kind")
    need(is_number(at) and at <= len(system), "at")
    return usable((*system[:at], kind, *system[at:]), "kind")


def without_kind(system, kind):
    """The system without a kind."""
    need_system(system)
    need_kind(system, kind)
    return usable(tuple([known for known in system if known[0] != kind]), "kind")


def with_instruction(system, kind, place, instruction):
    """The system with another instruction at a place of a kind."""
    need_system(system)
    need_kind(system, kind)
    need_place(system, kind, place)
    name, slots, places = kind_called(system, kind)
    changed = (name, slots, (*places[:place], instruction, *places[place + 1:]))
    return usable(tuple([changed if known[0] == kind else known for known in system]), "instruction")


def exchanged(system, old, new):
    """The system in which each fork of the kind old forks the kind new."""
    need_system(system)
    need_kind(system, old, "old")
    need_kind(system, new, "new")
    return usable(with_other_forks(system, old, new), "new")


def excluded(system, *exclusions):
    """The system without the rows of these exclusions."""
    need_system(system)
    for k, exclusion in enumerate(exclusions):
        if not is_exclusion(system, exclusion):
            raise NotUsable("exclusions", k)
    return with_places(system, [rows_left(kind, exclusions) for kind in system])


def turned(system):
    """The system with codes 0 and 1 exchanged, in exits and in rows."""
    need_system(system)
    return with_places(system, [[turned_place(place) for place in kind[2]] for kind in system])


def renamed(system, old, new):
    """The system in which the kind old is called new."""
    need_system(system)
    need_kind(system, old, "old")
    need(is_name(new) and new not in [kind[0] for kind in system], "new")
    forking = with_other_forks(system, old, new)
    return tuple([(new if name == old else name, slots, places) for name, slots, places in forking])


def retagged(system, old, new):
    """The system in which the tag old is called new everywhere."""
    need_system(system)
    need(is_name(old), "old")
    need(is_name(new), "new")
    return with_places(system, [[with_tag(place, old, new) for place in kind[2]] for kind in system])


def usable(system, word):
    """The changed system; refuse the parameter that is called word if it is none."""
    need(is_system(system), word)
    return system


def with_places(system, rows):
    """The system with these instructions, a list for each kind."""
    return tuple([(kind[0], kind[1], tuple(row)) for kind, row in zip(system, rows)])


def with_other_forks(system, old, new):
    """The system with forks of the kind old turned into forks of the kind new."""
    return with_places(system, [[with_fork(place, old, new) for place in kind[2]] for kind in system])


def with_fork(instruction, old, new):
    """The instruction, forking new if it forks old."""
    if instruction[0] != "fork" or instruction[1] != old:
        return instruction
    return ("fork", new, *instruction[2:])


def with_tag(instruction, old, new):
    """The instruction with the tag new in the place of old."""
    if instruction[0] == "fork" and instruction[2] == old:
        return (*instruction[:2], new, *instruction[3:])
    if is_waiting(instruction):
        tags = [new if tag == old else tag for tag in instruction[-1]]
        return (*instruction[:-1], tuple(sorted(set(tags))))
    return instruction


def turned_place(instruction):
    """The instruction with codes 0 and 1 exchanged."""
    if instruction[0] == "exit":
        return ("exit", 1 - instruction[1])
    if is_waiting(instruction):
        rows = [(slot, second, first, third) for slot, first, second, third in instruction[1]]
        return (instruction[0], tuple(rows), *instruction[2:])
    return instruction


def is_exclusion(system, thing):
    """Whether any value is an exclusion of the system."""
    if not isinstance(thing, tuple) or len(thing) != 3:
        return False
    name, place, slot = thing
    if not is_name(name) or name not in [kind[0] for kind in system] or not is_number(place):
        return False
    places = kind_called(system, name)[2]
    if place >= len(places) or not is_waiting(places[place]) or not has_pool(places[place]):
        return False
    return is_name(slot) and slot in row_slots(places[place])


def rows_left(kind, exclusions):
    """The instructions of a kind without the rows of these exclusions."""
    return [without_rows(place, kind[0], p, exclusions) for p, place in enumerate(kind[2])]


def without_rows(instruction, kind, place, exclusions):
    """The instruction at a place of a kind without the rows of these exclusions."""
    if not is_waiting(instruction):
        return instruction
    rows = [row for row in instruction[1] if (kind, place, row[0]) not in exclusions]
    return (instruction[0], tuple(rows), *instruction[2:])
