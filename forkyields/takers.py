"""Which endings can be taken by which waits and polls."""

from forkyields.checks import check_take, kind_called, need_kind, need_system
from forkyields.instructions import fork_tags
from forkyields.plans import Plan, tables_in
from forkyields.playouts import Playout
from forkyields.rules import EVERY
from forkyields.takings import foreign_by, forkers_by, rows_taking, shows_in_slot
from forkyields.worlds import CODE, TAG, children_in_reach


def comes(system, kind):
    """Whether behind some run of the system there is, or was, a process of the kind."""
    need_system(system)
    need_kind(system, kind)
    return kind in forkers_by(system, tables_in(system, Plan(system, "")))


def can_take(system, kind, place, tag):
    """Whether a child with the tag can be taken at a wait or poll of the kind."""
    check_take(system, kind, place, tag)
    return len(rows_to_take(system, Plan(system, tag), kind, place)) > 0


def foreign_takes(system):
    """The set of all (kind, place, tag) for which a child with the tag can be taken by a wait not meant for it."""
    need_system(system)
    found = [take for tag in fork_tags(system) for take in foreign_with(system, tag)]
    return tuple(sorted(set(found)))


def is_calm(system):
    """Whether no foreign take is possible."""
    need_system(system)
    return not any_foreign(system, fork_tags(system))


def any_foreign(system, tags):
    """Whether a foreign take of a child with one of these tags is possible."""
    for tag in tags:
        if foreign_with(system, tag):
            return True
    return False


def take_paper(system, kind, place, tag):
    """A run that ends with a take of a child with the tag, or tag tables that show none."""
    check_take(system, kind, place, tag)
    plan = Plan(system, tag)
    rows = rows_to_take(system, plan, kind, place)
    if rows:
        return ("run", run_to_take(system, plan, kind, rows))
    return ("tables", tables_in(system, plan))


def foreign_with(system, tag):
    """All (kind, place, tag), some perhaps several times, with a foreign take of a child with this tag."""
    return foreign_by(system, tables_in(system, Plan(system, tag)), tag)


def rows_to_take(system, plan, kind, place):
    """The rows of a kind at a wait or poll that show a take, none if the kind does not come."""
    rows = plan.tables[kind]
    return [rows[k] for k in rows_taking(system, tables_in(system, plan), kind, place, plan.tag)]


def run_to_take(system, plan, kind, rows):
    """A run of the system that ends with a take at one of these rows of the kind."""
    playout = Playout(system, plan)
    process = lead_to_kind(system, plan, playout, kind)
    known = kind_called(system, kind)
    goals = {}
    for row in rows:
        for living in (False, True):
            goals[(row[0], living, not shows_in_slot(known, row, plan.tag))] = EVERY
    playout.follow(process, plan.ways(kind, goals))
    take_tagged(playout, process)
    return tuple(playout.steps)


def take_tagged(playout, process):
    """Let a process take an ended child with the tag."""
    world = playout.world
    reach = children_in_reach(playout.program, world[process])
    lying = [child for child in reach if world[child][CODE] != -1 and world[child][TAG] == playout.plan.tag]
    playout.do_step(process, "take", lying[0])


def lead_to_kind(system, plan, playout, kind):
    """Let the processes fork each other down to one of the kind, which comes; its number."""
    forkers = forkers_by(system, tables_in(system, plan))
    names = [kind]
    while forkers[names[-1]]:
        names.append(forkers[names[-1]])
    process = 0
    for name, child in zip(names[::-1], names[::-1][1:]):
        places = kind_called(system, name)[2]
        rows = [row for row in plan.tables[name] if places[row[0][0]][:2] == ("fork", child)]
        goals = {(row[0], living, False): EVERY for row in rows for living in (False, True)}
        playout.follow(process, plan.ways(name, goals))
        number = len(playout.world)
        playout.do_step(process, "fork", -1)
        process = number
    return process
