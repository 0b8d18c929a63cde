"""The check of tables."""

from forkyields.checks import need_system
from forkyields.closures import open_row
from forkyields.errors import InvalidPaper
from forkyields.numbersets import is_number_set
from forkyields.progressions import holds
from forkyields.rules import NONE
from forkyields.stateparts import beginning, is_state_of


def lets_tables(system, thing):
    """How many rows closed tables of a system have together; InvalidPaper for any value that is no such tables."""
    need_system(system)
    check_rows(system, thing, 2)
    check_closed(system, [[(*row, NONE, NONE) for row in rows] for rows in thing], "")
    return sum([len(rows) for rows in thing])


def check_rows(system, thing, sets):
    """Refuse any value that is no tuple of a tuple of rows for each kind, ascending, each with so many number sets."""
    if not isinstance(thing, tuple) or len(thing) != len(system) or not all([isinstance(t, tuple) for t in thing]):
        raise InvalidPaper("shape", -1)
    for i, kind in enumerate(system):
        for k, row in enumerate(thing[i]):
            if not is_row(kind, row, sets) or (k > 0 and not thing[i][k - 1][0] < row[0]):
                raise InvalidPaper("row", (i, k))


def is_row(kind, thing, sets):
    """Whether any value is a state of the kind with so many number sets, those behind the second without 0."""
    if not isinstance(thing, tuple) or len(thing) != 1 + sets or not is_state_of(kind, thing[0]):
        return False
    return all([is_number_set(told) for told in thing[1:]]) and not any([holds(told, 0) for told in thing[3:]])


def check_closed(system, tables, tag):
    """Refuse tables that lack the beginning of a kind, or that a rule leads out of."""
    for i, kind in enumerate(system):
        if not any([row[0] == beginning(kind) and holds(row[1], 0) for row in tables[i]]):
            raise InvalidPaper("first", i)
    at = open_row(system, tables, tag)
    if at is not None:
        raise InvalidPaper("rule", at)
