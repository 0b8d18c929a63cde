"""The check of outside papers."""

from forkyields.checks import need_system, need_tag
from forkyields.errors import InvalidPaper
from forkyields.papers import check_two_forms
from forkyields.playing import played
from forkyields.takings import shows_outside
from forkyields.worlds import CODE, PARENT, TAG, tree_of


def lets_outside(system, tag, thing):
    """Whether an ended process with the tag can lie outside, as a paper says; InvalidPaper for any other value."""
    need_system(system)
    need_tag(tag)
    check_two_forms(system, tag, thing)
    if thing[0] == "run":
        if not lies_outside(tree_of(played(system, thing[1])), tag):
            raise InvalidPaper("outside", -1)
        return True
    for k, row in enumerate(thing[1][0]):
        if shows_outside(system[0], row, tag):
            raise InvalidPaper("number", k)
    return False


def lies_outside(tree, tag):
    """Whether an ended process with the tag lies outside in a tree."""
    return any([row[PARENT] == -1 and row[CODE] != -1 and row[TAG] == tag for row in tree])
