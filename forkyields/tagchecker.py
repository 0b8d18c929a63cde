"""The check of tables with a tag."""

from forkyields.checks import need_system, need_tag
from forkyields.tablechecker import check_closed, check_rows


def lets_tag_tables(system, tag, thing):
    """How many rows closed tag tables of a system have together; InvalidPaper for any value that is no such tables."""
    need_system(system)
    need_tag(tag)
    check_rows(system, thing, 4)
    check_closed(system, thing, tag)
    return sum([len(rows) for rows in thing])
