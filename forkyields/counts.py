"""Counted runs: triples, each of which a rule leads to from the one before."""

from forkyields.checks import kind_called, need, need_kind, need_system
from forkyields.errors import InvalidPaper
from forkyields.kinds import is_number
from forkyields.plans import Plan
from forkyields.rules import leads, moves_of
from forkyields.stateparts import beginning, is_state_of
from forkyields.systemparts import cut_at


def counted_run(system, kind, state, number, *, living=False):
    """A counted run of the kind that ends with (state, number, living)."""
    need_system(system)
    need_kind(system, kind)
    need(is_state_of(kind_called(system, kind), state), "state")
    need(isinstance(living, bool), "living")
    plan = Plan(cut_at(system, kind), "")
    need(is_number(number) and plan.has_number(kind, state, number, living, False), "number")
    way = plan.ways(kind, {(state, living, False): ((number,), (), 0)})
    return tuple([told[:3] for told in way])


def lets_count(system, kind, thing):
    """The last element of a counted run of the kind; InvalidPaper for any value that is none."""
    need_system(system)
    need_kind(system, kind)
    known = kind_called(system, kind)
    if not isinstance(thing, tuple) or not thing or not all([is_triple(known, part) for part in thing]):
        raise InvalidPaper("shape", -1)
    if thing[0] != (beginning(known), 0, False):
        raise InvalidPaper("first", -1)
    gains = Plan(cut_at(system, kind), "").gains
    for k in range(1, len(thing)):
        if not any_leads(known, gains, thing[k - 1], thing[k]):
            raise InvalidPaper("rule", k)
    return thing[-1]


def is_triple(kind, thing):
    """Whether any value is a triple of a state of the kind by form, a number and a bool."""
    if not isinstance(thing, tuple) or len(thing) != 3:
        return False
    return is_state_of(kind, thing[0]) and is_number(thing[1]) and isinstance(thing[2], bool)


def any_leads(kind, gains, before, after):
    """Whether some rule leads from a triple to another one."""
    moves = moves_of(kind, gains, "", before[0], before[2])
    return any([leads(move, (*before, False), (*after, False)) for move in moves])
