"""The tables of a system: which states its kinds come to, with which numbers."""

from forkyields.checks import need_kind, need_system
from forkyields.plans import Plan
from forkyields.systemparts import cut_at


def table_of(system, kind):
    """The table of a kind: a row (state, settled, unsettled) for each state to which it comes."""
    need_system(system)
    need_kind(system, kind)
    return plain_rows(Plan(cut_at(system, kind), "").tables[kind])


def tables_of(system):
    """The tables of all kinds in their order."""
    need_system(system)
    tables = Plan(system, "").tables
    return tuple([plain_rows(tables[kind[0]]) for kind in system])


def plain_rows(rows):
    """The rows without what they tell of a tag."""
    return tuple([row[:3] for row in rows])
