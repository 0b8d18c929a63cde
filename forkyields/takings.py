"""What tables tell of the kinds that come, and of the takes that are possible."""

from forkyields.instructions import has_pool, row_slots
from forkyields.rules import NONE
from forkyields.stateparts import content_of, has_tag


def forkers_by(system, tables):
    """For each kind that comes by tables, a kind that comes and forks it, or "" for the first one."""
    forkers = {system[0][0]: ""}
    for kind, rows in zip(system, tables):
        if kind[0] in forkers:
            for name in forked_in(kind, rows):
                if name not in forkers:
                    forkers[name] = kind[0]
    return forkers


def forked_in(kind, rows):
    """The names of the kinds that are forked at the places of rows with some number."""
    places = [kind[2][row[0][0]] for row in rows if has_numbers(row)]
    return [instruction[1] for instruction in places if instruction[0] == "fork"]


def has_numbers(row):
    """Whether a row has a settled or unsettled number."""
    return row[1] != NONE or row[2] != NONE


def shows_take(kind, row, tag):
    """Whether a row with numbers with a tag shows a take of a child with the tag at its wait or poll."""
    return has_numbers(row) and (shows_in_slot(kind, row, tag) or shows_in_pool(kind, row))


def shows_in_slot(kind, row, tag):
    """Whether a slot that the wait or poll of a row looks at has an ended child with the tag."""
    place, contents = row[0]
    slots = row_slots(kind[2][place])
    return any([has_tag(kind, content_of(kind, contents, slot), tag) for slot in slots])


def shows_in_pool(kind, row):
    """Whether the wait or poll of a row looks at the pool, and there are numbers with the tag."""
    return has_pool(kind[2][row[0][0]]) and (row[3] != NONE or row[4] != NONE)
