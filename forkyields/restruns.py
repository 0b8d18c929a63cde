"""Runs behind which nothing can do a step, or nothing in the pool and below it."""

from forkyields.checks import kind_called, need, need_kind, need_system
from forkyields.kinds import is_number
from forkyields.playouts import Playout
from forkyields.restplans import RestPlan
from forkyields.stateparts import is_state_of
from forkyields.systemparts import cut_at
from forkyields.worlds import KIND, POOL, children_in, lives


def rest_run(system, kind, state):
    """A run of the kind behind which the tree is at rest and process 0 lives, in this state."""
    need_system(system)
    need_kind(system, kind)
    own = cut_at(system, kind)
    plan = RestPlan(own, "")
    need(is_state_of(kind_called(system, kind), state) and is_stuck(plan, kind, state), "state")
    stuck = plan.stuck[kind]
    playout = Playout(own, plan)
    playout.follow(0, plan.ways(kind, {goal: stuck[goal] for goal in stuck if goal[0] == state}))
    put_to_rest(playout, children_in(playout.world[0]))
    return tuple(playout.steps)


def resting_run(system, kind, state, number):
    """A run of the kind to a state with so many ended children in the pool, others living there that are at rest."""
    need_system(system)
    need_kind(system, kind)
    need(is_state_of(kind_called(system, kind), state), "state")
    own = cut_at(system, kind)
    plan = RestPlan(own, "")
    need(is_number(number) and plan.has_number(kind, state, number, True, False), "number")
    playout = Playout(own, plan)
    playout.follow(0, plan.ways(kind, {(state, True, False): ((number,), (), 0)}))
    put_to_rest(playout, playout.world[0][POOL])
    return tuple(playout.steps)


def is_stuck(plan, kind, state):
    """Whether a state by form is a stuck one of the kind."""
    return kind in plan.stuck and any([goal[0] == state for goal in plan.stuck[kind]])


def put_to_rest(playout, processes):
    """Lead processes, those of them that live being at their beginning, and all that comes of them, to rest."""
    pending = list(processes)
    while pending:
        process = pending.pop()
        if lives(playout.world, process):
            name = playout.world[process][KIND]
            playout.follow(process, playout.plan.way_to_rest(name))
            pending.extend(children_in(playout.world[process]))
