"""Which endings come to lie outside."""

from forkyields.checks import need_system, need_tag
from forkyields.instructions import fork_tags
from forkyields.plans import Plan, tables_in
from forkyields.playouts import life_in
from forkyields.progressions import member_at
from forkyields.rules import NONE


def outside_tags(system):
    """The set of the tags of forks of which an ended process lies outside behind some run."""
    need_system(system)
    return tuple([tag for tag in fork_tags(system) if ends_outside(system, Plan(system, tag))])


def outside_paper(system, tag):
    """A run behind which an ended process with the tag lies outside, or tag tables that show none."""
    need_system(system)
    need_tag(tag)
    plan = Plan(system, tag)
    ends = ends_outside(system, plan)
    if ends:
        return ("run", life_in(system, plan, ends[0]))
    return ("tables", tables_in(system, plan))


def ends_outside(system, plan):
    """Ends of process 0 that bring an ended process with the tag: (code, number, late, 1), the least numbers."""
    account = plan.accounts[system[0][0]][1]
    sets = [(code, late, account[code][late]) for code in (0, 1) for late in (0, 1)]
    return [(code, member_at(told, 0), late, 1) for code, late, told in sets if told != NONE]
