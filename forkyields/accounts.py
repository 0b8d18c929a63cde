"""What a fork of a kind can bring its parent."""

from forkyields.accountparts import reach_in
from forkyields.checks import need, need_kind, need_system
from forkyields.kinds import is_one_of
from forkyields.plans import Plan
from forkyields.systemparts import cut_at


def account_of(system, kind):
    """The account of a kind: three pairs (settled, unsettled) of number sets, by code."""
    need_system(system)
    need_kind(system, kind)
    return Plan(cut_at(system, kind), "").accounts[kind][0]


def reach_of(system, kind, code):
    """The greatest number of takes behind which something is still there, None for endless."""
    need_system(system)
    need_kind(system, kind)
    need(is_one_of(code, (0, 1, 2)), "code")
    return reach_in(account_of(system, kind)[code])
