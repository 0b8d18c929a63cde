"""What tables tell of the kinds that come, and of the takes that are possible."""

from forkyields.instructions import all_tags, has_pool, is_waiting, row_slots
from forkyields.rules import NONE
from forkyields.stateparts import any_tagged, content_of, has_tag


def forkers_by(system, tables):
    """For each kind that comes by tables, a kind that comes and forks it, or "" for the first one."""
    forkers = {system[0][0]: ""}
    for kind, rows in zip(system, tables):
        if kind[0] in forkers:
            for name in forked_in(kind, rows):
                if name not in forkers:
                    forkers[name] = kind[0]
    return forkers


def forked_in(kind, rows):
    """The names of the kinds that are forked at the places of rows with some number."""
    places = [kind[2][row[0][0]] for row in rows if has_numbers(row)]
    return [instruction[1] for instruction in places if instruction[0] == "fork"]


def has_numbers(row):
    """Whether a row has a settled or unsettled number."""
    return row[1] != NONE or row[2] != NONE


def rows_taking(system, tables, name, place, tag):
    """The indexes of the rows of a kind that show a take at a wait or poll, none if the kind does not come."""
    if name not in forkers_by(system, tables):
        return []
    k = [kind[0] for kind in system].index(name)
    return [at for at, row in enumerate(tables[k]) if row[0][0] == place and shows_take(system[k], row, tag)]


def foreign_by(system, tables, tag):
    """All (kind, place, tag), some perhaps several times, for which rows of kinds that come show a foreign take."""
    comers = forkers_by(system, tables)
    found = []
    for kind, rows in zip(system, tables):
        if kind[0] in comers:
            foreign = [row for row in rows if is_foreign(kind[2][row[0][0]], tag)]
            found.extend([(kind[0], row[0][0], tag) for row in foreign if shows_take(kind, row, tag)])
    return found


def is_foreign(instruction, tag):
    """Whether an instruction is a wait or poll that is not meant for the tag."""
    return is_waiting(instruction) and tag not in all_tags(instruction)


def shows_take(kind, row, tag):
    """Whether a row with numbers with a tag shows a take of a child with the tag at its wait or poll."""
    return has_numbers(row) and (shows_in_slot(kind, row, tag) or shows_in_pool(kind, row))


def shows_in_slot(kind, row, tag):
    """Whether a slot that the wait or poll of a row looks at has an ended child with the tag."""
    place, contents = row[0]
    slots = row_slots(kind[2][place])
    return any([has_tag(kind, content_of(kind, contents, slot), tag) for slot in slots])


def shows_in_pool(kind, row):
    """Whether the wait or poll of a row looks at the pool, and there are numbers with the tag."""
    return has_pool(kind[2][row[0][0]]) and has_tagged(row)


def shows_outside(kind, row, tag):
    """Whether a row of the first kind shows that a child with the tag comes to lie outside."""
    place, contents = row[0]
    if kind[2][place][0] != "exit" or not has_numbers(row):
        return False
    return any_tagged(kind, contents, tag) or has_tagged(row)


def has_tagged(row):
    """Whether a row has a settled or unsettled number with the tag."""
    return row[3] != NONE or row[4] != NONE
