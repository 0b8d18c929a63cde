"""Sets of exclusions of a system, and how they lie within each other."""

from forkyields.instructions import has_pool, is_waiting, row_slots
from forkyields.systemchanges import is_exclusion


def all_exclusions(system):
    """The set of all exclusions of a system."""
    found = []
    for kind in system:
        for place, instruction in enumerate(kind[2]):
            if is_waiting(instruction) and has_pool(instruction):
                found.extend([(kind[0], place, slot) for slot in row_slots(instruction)])
    return tuple(sorted(set(found)))


def is_exclusion_set(system, thing):
    """Whether any value is a set of exclusions of the system."""
    if not isinstance(thing, tuple) or not all([is_exclusion(system, part) for part in thing]):
        return False
    return all([low < high for low, high in zip(thing, thing[1:])])


def includes(exclusions, others):
    """Whether a set of exclusions has all those of another one."""
    return all([exclusion in exclusions for exclusion in others])


def any_within(sets, exclusions):
    """Whether a set of exclusions includes one of these sets."""
    return any([includes(exclusions, known) for known in sets])


def any_around(sets, exclusions):
    """Whether a set of exclusions lies in one of these sets."""
    return any([includes(known, exclusions) for known in sets])


def sets_by_size(exclusions):
    """All sets of some of these exclusions, the small ones first, those of one size ascending."""
    found = [()]
    for exclusion in exclusions:
        found = found + [(*known, exclusion) for known in found]
    sized = sorted(set([(len(known), known) for known in found]))
    return [known for _, known in sized]
