"""Runs to a number of ended children, and to a number of endings."""

from forkyields.checks import kind_called, need, need_kind, need_system
from forkyields.kinds import is_name, is_number, is_one_of, is_word
from forkyields.plans import Plan
from forkyields.playouts import Playout, life_in
from forkyields.progressions import holds
from forkyields.stateparts import is_state_of
from forkyields.systemparts import cut_at


def run_to(system, kind, state, number, *, living=False, tag=""):
    """A run of the kind to a state with so many ended children in the pool, some living, some tagged if wanted."""
    need_system(system)
    need_kind(system, kind)
    need(is_state_of(kind_called(system, kind), state), "state")
    need(isinstance(living, bool), "living")
    need(is_name(tag) or is_word(tag, ("",)), "tag")
    own = cut_at(system, kind)
    plan = Plan(own, tag)
    marked = tag != ""
    need(is_number(number) and plan.has_number(kind, state, number, living, marked), "number")
    playout = Playout(own, plan)
    playout.follow(0, plan.ways(kind, {(state, living, marked): ((number,), (), 0)}))
    return tuple(playout.steps)


def life_of(system, kind, code, number, *, living=False):
    """A run of the kind to its end with a code, so many ended processes outside, some living if wanted."""
    need_system(system)
    need_kind(system, kind)
    need(is_one_of(code, (0, 1)), "code")
    need(isinstance(living, bool), "living")
    own = cut_at(system, kind)
    plan = Plan(own, "")
    late = 1 if living else 0
    need(is_number(number) and holds(plan.accounts[kind][0][code][late], number), "number")
    return life_in(own, plan, (code, number, late, 0))
