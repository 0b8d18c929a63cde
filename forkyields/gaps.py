"""What does not happen, or should not: waits that find nothing, and places to which no process comes."""

from forkyields.checks import need_system
from forkyields.instructions import has_pool, is_waiting
from forkyields.plans import Plan, tables_in
from forkyields.rules import none_moves
from forkyields.takings import forkers_by


def none_places(system):
    """The set of all (kind, place) of waits and polls without a pool at which none is possible for process 0."""
    need_system(system)
    rows = all_rows(system, Plan(system, ""))
    return tuple(sorted(set([(kind[0], state[0]) for kind, state in rows if finds_nothing(kind, state)])))


def dead_places(system):
    """The set of all (kind, place) at which no process is behind any run of the system."""
    need_system(system)
    plan = Plan(system, "")
    comers = forkers_by(system, tables_in(system, plan))
    met = {(kind[0], state[0]): True for kind, state in all_rows(system, plan) if kind[0] in comers}
    places = [(kind[0], place) for kind in system for place in range(len(kind[2]))]
    return tuple(sorted(set([place for place in places if place not in met])))


def all_rows(system, plan):
    """All pairs of a kind and a state to which it comes."""
    return [(kind, row[0]) for kind in system for row in plan.tables[kind[0]]]


def finds_nothing(kind, state):
    """Whether none is possible in a state at a wait or poll without a pool, whatever the numbers."""
    instruction = kind[2][state[0]]
    return is_waiting(instruction) and not has_pool(instruction) and len(none_moves(kind, state, False)) > 0
