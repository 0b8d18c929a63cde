"""What stands in a system: its kinds, slots, targets, forks, waits and tags."""

from forkyields.checks import kind_called, need, need_kind, need_place, need_system, need_wait
from forkyields.instructions import all_tags, all_targets, has_pool, is_waiting, row_slots
from forkyields.kinds import is_name


def kind_names(system):
    """The tuple of the names of the kinds in their order."""
    need_system(system)
    return tuple([kind[0] for kind in system])


def index_of(system, kind):
    """The index of a kind."""
    need_system(system)
    need_kind(system, kind)
    return [known[0] for known in system].index(kind)


def slots_of(system, kind):
    """The set of the slots of a kind."""
    need_system(system)
    need_kind(system, kind)
    return kind_called(system, kind)[1]


def next_places(system, kind, place):
    """The set of all targets of an instruction."""
    instruction = checked_instruction(system, kind, place)
    return tuple(sorted(set(all_targets(instruction))))


def forks_in(system, kind):
    """The set of (place, kind, tag, slot) of the forks of a kind."""
    need_system(system)
    need_kind(system, kind)
    places = kind_called(system, kind)[2]
    return tuple([(p, *places[p][1:4]) for p in range(len(places)) if places[p][0] == "fork"])


def waits_in(system, kind):
    """The set of the places of a kind with a wait or poll."""
    need_system(system)
    need_kind(system, kind)
    places = kind_called(system, kind)[2]
    return tuple([p for p in range(len(places)) if is_waiting(places[p])])


def tags_in(system):
    """The set of the tags of all forks, waits and polls."""
    need_system(system)
    return tuple(sorted(set([tag for kind in system for place in kind[2] for tag in all_tags(place)])))


def in_range(system, kind, place):
    """The set of the slots of the rows of a wait or poll, with the empty string if it has a pool."""
    instruction = checked_instruction(system, kind, place)
    need_wait(system, kind, place)
    of_pool = [""] if has_pool(instruction) else []
    return tuple(of_pool + row_slots(instruction))


def is_meant(system, kind, place, tag):
    """Whether a tag is among those that a wait or poll is meant for."""
    instruction = checked_instruction(system, kind, place)
    need_wait(system, kind, place)
    need(is_name(tag), "tag")
    return tag in all_tags(instruction)


def cut_at(system, kind):
    """The system of a kind and all later ones."""
    return system[index_of(system, kind):]


def checked_instruction(system, kind, place):
    """The instruction at a place of a kind, the first parameter that is none refused."""
    need_system(system)
    need_kind(system, kind)
    need_place(system, kind, place)
    return kind_called(system, kind)[2][place]
