"""The check of take papers."""

from forkyields.checks import check_take
from forkyields.errors import InvalidPaper
from forkyields.papers import check_two_forms
from forkyields.playing import moments
from forkyields.takings import rows_taking
from forkyields.worlds import KIND, PLACE, TAG


def lets_take(system, kind, place, tag, thing):
    """Whether a child with the tag can be taken there, as a take paper says; InvalidPaper for any other value."""
    check_take(system, kind, place, tag)
    check_two_forms(system, tag, thing)
    if thing[0] == "run":
        if last_take(system, thing[1]) != (kind, place, tag):
            raise InvalidPaper("take", -1)
        return True
    rows = rows_taking(system, thing[1], kind, place, tag)
    if rows:
        raise InvalidPaper("number", rows[0])
    return False


def last_take(system, run):
    """Who takes by the last step of a run: the kind, its place and the tag of the child, () if it is no take."""
    if not run or run[-1][1] != "take":
        return ()
    row, child = moments(system, run)[-1]
    return (row[KIND], row[PLACE], child[TAG])
