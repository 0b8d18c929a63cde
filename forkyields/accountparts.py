"""Accounts as rows of tables give them."""

from forkyields.numbersets import is_number_set
from forkyields.progressions import greatest_in, lies_within, shifted, union_of
from forkyields.rules import NONE
from forkyields.stateparts import any_alive, any_tagged, ended_many


def account_from(kind, rows):
    """The account that rows beginning (state, settled, unsettled) give: three pairs of number sets, by code."""
    return tuple([tuple([joined_all(told_by(kind, rows, code, late)) for late in (0, 1)]) for code in (0, 1, 2)])


def tagged_account_from(kind, rows, tag):
    """The account with the tag that rows (state, settled, unsettled, and both with the tag) give."""
    marked = [(state, ws, wu) for state, settled, unsettled, ws, wu in rows]
    return account_from(kind, marked + [row for row in rows if any_tagged(kind, row[0][1], tag)])


def told_by(kind, rows, code, late):
    """What rows give for a code, settled for late 0: pairs of a number set and what each number of it grows by."""
    told = []
    for state, settled, unsettled in [row[:3] for row in rows]:
        place, contents = state
        if code == 2 or kind[2][place] == ("exit", code):
            by = 1 + ended_many(contents)
            still = any_alive(contents)
            if still == (late == 1):
                told.append((settled, by))
            if late == 1:
                told.append((unsettled, by))
    return told


def joined_all(pairs):
    """The number set of all numbers of pairs of a number set and what each number of it grows by."""
    different = {pair: True for pair in pairs if pair[0] != NONE}
    return union_of([shifted(told, by) for told, by in different])


def gains_from(account, tagged):
    """The gains of a kind with this account, and this account with the tag."""
    return tuple([(told, lowered(told)) for told in (account, tagged)])


def lowered(account):
    """The account with each number less 1."""
    return tuple([tuple([shifted(told, -1) for told in pair]) for pair in account])


def reach_in(pair):
    """The reach that the settled and unsettled numbers of a code give, None for endless."""
    settled, unsettled = greatest_in(pair[0]), greatest_in(pair[1])
    if settled is None or unsettled is None:
        return None
    # Without any number at all unsettled is -1.
    return unsettled if unsettled > settled - 1 else settled - 1


def is_lesser(account, other):
    """Whether for each code an account has no settled number that another one has not, and no greater reach."""
    within = all([lies_within(pair[0], more[0]) for pair, more in zip(account, other)])
    return within and all([reaches_to(reach_in(pair), reach_in(more)) for pair, more in zip(account, other)])


def reaches_to(reach, other):
    """Whether a reach is at most another one; None is endless."""
    return other is None or (reach is not None and reach <= other)


def is_account(thing):
    """Whether any value is a tuple of three pairs of number sets."""
    if not isinstance(thing, tuple) or len(thing) != 3:
        return False
    if not all([isinstance(pair, tuple) and len(pair) == 2 for pair in thing]):
        return False
    return all([is_number_set(told) for pair in thing for told in pair])


def joined_accounts(account, other):
    """The account of the joined sets."""
    return tuple([(union_of([pair[0], more[0]]), union_of([pair[1], more[1]])) for pair, more in zip(account, other)])
