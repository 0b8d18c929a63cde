"""The numbers of a kind with a tag."""

from forkyields.checks import need_kind, need_system, need_tag
from forkyields.plans import Plan
from forkyields.rules import NONE
from forkyields.systemparts import cut_at


def tag_table(system, kind, tag):
    """The rows (state, settled, unsettled) of the states that have such a number with the tag."""
    rows = tagged_plan(system, kind, tag).tables[kind]
    return tuple([(state, ws, wu) for state, _, _, ws, wu in rows if (ws, wu) != (NONE, NONE)])


def tag_account(system, kind, tag):
    """The numbers with the tag in the account of a kind: three pairs (settled, unsettled), by code."""
    return tagged_plan(system, kind, tag).accounts[kind][1]


def tagged_plan(system, kind, tag):
    """The plan of a kind and a tag, the first parameter that is none refused."""
    need_system(system)
    need_kind(system, kind)
    need_tag(tag)
    return Plan(cut_at(system, kind), tag)
