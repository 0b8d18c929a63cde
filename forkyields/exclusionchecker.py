"""The check of exclusion papers."""

from forkyields.checks import need_system
from forkyields.errors import InvalidPaper
from forkyields.exclusionsets import all_exclusions, any_around, any_within, is_exclusion_set, sets_by_size
from forkyields.kinds import is_name
from forkyields.playing import is_played
from forkyields.runs import take_rows
from forkyields.systemchanges import excluded
from forkyields.systemparts import tags_in
from forkyields.tagchecker import lets_tag_tables
from forkyields.takings import foreign_by


def lets_exclusions(system, thing):
    """Whether some exclusions leave no foreign take, as a paper says; InvalidPaper for any value that is none."""
    need_system(system)
    if not is_pair(thing) or not all([is_row_of_pairs(rows) for rows in thing]):
        raise InvalidPaper("shape", -1)
    for i, rows in enumerate(thing):
        for k in range(len(rows)):
            if not stands_behind(system, [row[0] for row in rows[:k]], rows[k][0]):
                raise InvalidPaper("set", (i, k))
    for i, rows in enumerate(thing):
        for k, (exclusions, paper) in enumerate(rows):
            left = excluded(system, *exclusions)
            if not (shows_calm(left, paper) if i == 0 else shows_foreign(left, paper)):
                raise InvalidPaper("paper", (i, k))
    least, others = [[row[0] for row in rows] for rows in thing]
    for exclusions in sets_by_size(all_exclusions(system)):
        if not any_within(least, exclusions) and not any_around(others, exclusions):
            raise InvalidPaper("left", exclusions)
    return len(least) > 0


def is_pair(thing):
    """Whether any value is a tuple of two."""
    return isinstance(thing, tuple) and len(thing) == 2


def is_row_of_pairs(thing):
    """Whether any value is a tuple of pairs."""
    return isinstance(thing, tuple) and all([is_pair(part) for part in thing])


def stands_behind(system, before, thing):
    """Whether any value is a set of exclusions that is greater than those before, and apart from each of them."""
    if not is_exclusion_set(system, thing) or (before and not before[-1] < thing):
        return False
    return not any_within(before, thing) and not any_around(before, thing)


def shows_calm(system, thing):
    """Whether any value has, for each tag, tag tables of the system that show no foreign take."""
    tags = tags_in(system)
    if not is_row_of_pairs(thing) or not all([is_name(part[0]) for part in thing]):
        return False
    if tuple([part[0] for part in thing]) != tags:
        return False
    return all([shows_none(system, tag, tables) for tag, tables in thing])


def shows_none(system, tag, thing):
    """Whether any value is tag tables of the system that show no foreign take of a child with the tag."""
    try:
        lets_tag_tables(system, tag, thing)
    except InvalidPaper:
        return False
    return not foreign_by(system, thing, tag)


def shows_foreign(system, thing):
    """Whether any value is a run of the system in which some take is foreign."""
    return is_played(system, thing) and not all([row[5] for row in take_rows(system, thing)])
